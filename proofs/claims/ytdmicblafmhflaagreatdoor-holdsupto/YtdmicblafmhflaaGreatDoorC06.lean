/- facts.Total at what was given. -/
import Derived.Test.YtdmicblafmhflaaGreatDoorC05
import Derived.Maps.RangeWalk
import Derived.Sort.MapsRangeIn
set_option linter.unusedSimpArgs false
set_option linter.unusedVariables false
set_option maxHeartbeats 8000000
set_option maxRecDepth 100000
namespace Go.Proofs.YtdmicblafmhflaaGreatDoor
open Go.Proofs.Tryz Go.RowKit Go.Maps
variable{f:En.ba}{s:En.dH En.ba}{t t':HT}{G R N:List GT}{T B A:List HT}{mb n sb fc b:Nat}{fd:Option Addr}{rv:Value}{w wr w1:World}
def ke(left:Lit->Bool)(G:List GT):List GT:=G.filter λt=>left (bj t.nm)
def eA(G:List GT):Nat:=(G.map λt=>t.L.length).sum
theorem zq{left:Lit->Bool}(h:∀kl,left kl=false):ke left G=[]:=by simp[ke,h]
theorem Le(j:(G.map GT.nm).Nodup){left:Lit->Bool}{t}(i:t∈G)(u:left (bj t.nm)=true):
 eA (ke left G)=eA (ke (λz=>left z&&!z.sameKey (bj t.nm)) G)+t.L.length:=by
 induction G with
 | nil=>simp at i
 | cons a G ih=>
  simp only[abn,adH]at j;unfold ke eA at ih ⊢;rcases BY.1 i with rfl | i
  ·have y:G.filter (λz=>left (bj z.nm)&&!(bj z.nm).sameKey (bj t.nm))=G.filter (λz=>left (bj z.nm)):=by
    refine List.filter_congr λz q=>?_;have:(bj z.nm).sameKey (bj t.nm)=false:=sameKey_ne (λe=>j.1 (by rw[<-kL e];exact aaN q));simp[this]
   have x:(bj t.nm).sameKey (bj t.nm)=true:=by simp[Lit.sameKey,bj]
   simp only[List.filter_cons,u,x,y];simp;omega
  ·have w:=ih j.2 i;have:(bj a.nm).sameKey (bj t.nm)=false:=sameKey_ne (λe=>j.1 (by rw[kL e];exact aaN i));simp only[List.filter_cons,this];cases left (bj a.nm)<;>simp at w ⊢<;>omega
theorem FR:∀{G:List GT} {x:ByteArray} {g:Nat},Ax.look (G.map GT.key) x=some g->∃t,t∈G/\t.nm=x/\t.g=g
 | [],x,g,h=>by simp[Ax.look]at h
 | a::G,x,g,h=>by
  rw[abn]at h;have e:Ax.look (a.key::G.map GT.key) x=if a.nm=x then some a.g else Ax.look (G.map GT.key) x:=eR ..;rw[e]at h;split at h
  ·rename_i e;exact⟨a,by simp,e,adR h⟩
  ·obtain⟨t,i,j⟩:=FR h;exact⟨t,by simp[i],j⟩
theorem vz(v y)(h:cU v=some y):∃c,v=.pointer c:=by
 unfold cU at h;split at h
 ·exact⟨_,rfl⟩
 ·exact⟨_,rfl⟩
 ·cases h
theorem uN{D}(u:OG D (G.map GT.key)){left:Lit->Bool}(E:∀kl,left kl=true->has D kl=true){x c kl y}
 (j:keyOf prog 9 (.string x)=some kl)(J:left kl=true)(F:cU (.pointer c)=some y)(A:∀zd,D.atKey kl zd=y.1):kl=bj x/\∃t,t∈G/\t.nm=x/\c=some ⟨t.g,0,none⟩:=by
 have e:kl=bj x:=by
  simp[keyOf,abK,mapKey]at j;exact j.2.symm
 subst e;have w:=E _ J;rw[(u x).1]at w;obtain⟨g,q⟩:=Option.isSome_iff_exists.1 w;obtain⟨t,B,I,H⟩:=FR q;have i:=(u x).2 g q;rw[A]at i;obtain⟨N,M⟩:=y;simp only at i;subst i;have:=lX F;refine⟨rfl,t,B,I, ?_⟩;rw[H];simpa using this
theorem MQ(g n w):(method (n+1) 122 (.pointer (some ⟨g,0,none⟩)) "Len").run prog w=.ok (136,.pointer (some ⟨g,0,none⟩)) w:=by
 kernel_rfl
theorem Co(w mb G)(h:qS w mb G)(hs:eA G<=1000000:=by omega):
 Calls prog 110 #[.map (some mb)] w λe w'=>e=.returned (.int .i64 (eA G:Nat))/\Below w.heap.size w w':=by
 obtain⟨n,D,O,hn,M⟩:=h.map.has;have eB:=O.lt;have I:=aj h;have Y:=aj M;clear h M
 go_enter func110,ntmps110
 go_wp2_with (first
  | (at_range;refine wpList_range_own _ rfl _ 102 rfl 9 122 Tryz.fU aec _ mb n _ rfl O ?_;intro w0 TT oo F3)
  | go_in)
 go_frame
 go_loopw [3,8] (λv _ wr=>∃(left:Lit->Bool) (kx k:Nat),wr.ranges prog 9 cU mb w.heap.size n D left kx/\(∀kl,left kl=true->has D kl=true)/\v=.int .i64 k/\k+eA (ke left G)=eA G/\Below w.heap.size w wr)
  (λ_ _ wr=>wr.rangeLeft mb w.heap.size)
 ·
  refine⟨_,_,0,TT,λ_ h=>h,rfl, ?_,(aaj _ w).grown oo (OF _) (λj A=>by cases A)⟩;have e:ke (has D) G=G:=by
   refine List.filter_eq_self.2 λt q=>?_;rw[(Y.out t.nm).1,kK I.out.names q];rfl
  rw[e,acm]
 ·
  obtain⟨left,kx,k,X,U,rfl,H,B⟩:=hrel
  go_wp2_with (first
   | (at_next;refine wpList_next_ranges _ rfl _ rfl 9 Tryz.fU cU Value.string Value.pointer (λkey kl mI=>Maps.keyOf_string_inv abK mI) vz mb w.heap.size n _ _ _ rfl X ?_ ?_)
   | go_in)
  ·intro hc0 DB;rw[zq DB]at H;have hk:k=eA G:=H;subst hk
   go_wp2
   go_ret;exact⟨rfl,B⟩
  ·intro x c kl y ps w1 Ns u V F pJ W aL eQ iS hen;obtain⟨rfl,t,q,rfl,rfl⟩:=uN Y.out U u V F pJ;have gT:=Le I.out.names q V;have N:Below w.heap.size w w1:=B.grown eQ B.size (λj A=>by cases A;exact OF _);have E:cW w1 t.g 125 t.nm t.pl t.rd t.rc t.L []:=(I.out.cK t q).below N;have i:=UG w1 t.g E;have rY:=lt_of_heap E.aY;have hm:=MQ t.g;have J:Hid (k+t.L.length+eA (ke (λz=>left z&&!z.sameKey (bj t.nm)) G)=eA G):=by
    show k+t.L.length+eA (ke (λz=>left z&&!z.sameKey (bj t.nm)) G)=eA G;omega
   have Hj:k+t.L.length<=1000000:=by have:=J.out;omega
   generalize t.L.length=Z at i Hj J;clear gT H E
   go_wp2_with (go_at_call 136;refine i.mono ?_;rintro e w2 ⟨rfl,rfl⟩)
   go_roundw
   ·exact⟨_,Ns,k+Z,W,λkl h=>U kl (by simp at h;exact h.1),by go_num,J.out,N⟩
   ·rw[W.left_eq,X.left_eq];exact aL
/- NoneGiven: empty tables. -/
section
open Go.RowKit Go.Maps Go.WideMaps Go.WideElems
def BQ(p:Pd.Pr)(g:Nat):GT:=⟨p.1,p.2,g,none,0,[]⟩
theorem yR(p g):(BQ p g).cD=[g]:=rfl
def P7(t:GT):Pd.Pr:=(t.nm,t.pl)
theorem OM{p g}(h:w.heap[g]?=some (.cells #[.string p.1,.int .i64 p.2,.slice none 0 0] 125 (0,0))):(BQ p g).ok w:=⟨h,⟨(by intro r e;cases e),aaM _ _ _ _⟩,List.Pairwise.nil,by decide⟩
structure rP(w wr:World)(mb k:Nat)(Q:List Pd.Pr)(T:List GT):Prop where
 map:∃D,wr.ownsMap prog 9 cU mb k D/\OG D (T.map GT.key)
 cK:∀t,t∈T->t.ok wr/\∃p g,t=BQ p g/\mb<g
 apart:T.Pairwise Jb
 mx:T.map P7=(Q.take k).reverse
 be:Below w.heap.size w wr
 V9:mb=w.heap.size
theorem F7{q k Q T u}(h:rP w wr mb k Q T)(J:k<Q.length){D}(O:OG D (T.map GT.key))(hm:IsMap D)
 (I:q.ownsMap prog 9 cU mb (k+1) (D.put (bj (Q[k]).1) (.lit (.int .i64 (wr.heap.size+1:Nat)))))(M:((wr.alloc u).alloc (.cells (match Q[k]with | p=>#[.string p.1,.int .i64 p.2,.slice none 0 0]) 125)).grownBy q (some mb)):
 rP w q mb (k+1) Q (BQ Q[k] (wr.heap.size+1)::T):=by
 have y:Kb [mb] ((wr.alloc u).alloc (.cells (match Q[k]with | p=>#[.string p.1,.int .i64 p.2,.slice none 0 0]) 125)) q:=Kb.eS M;have E:Below wr.heap.size wr ((wr.alloc u).alloc (.cells (match Q[k]with | p=>#[.string p.1,.int .i64 p.2,.slice none 0 0]) 125)):=aM.alloc (by simp) _;have hs:=h.be.size;have F:∀t,t∈T->∀b,b∈t.cD->b<wr.heap.size/\mb<b:=by
  intro t i b j;obtain⟨A,p,g,rfl,B⟩:=h.cK t i;refine⟨A.lt j, ?_⟩;rw[yR,aae]at j;rw[j];exact B
 have V:=h.V9;refine⟨⟨_,I,DM O hm⟩, ?_, ?_, ?_, ?_,V⟩
 ·intro t i;rcases BY.1 i with rfl | i
  ·refine⟨OM ?_,_,_,rfl,by omega⟩;have:=y.heap (nH wr u _) (by simp;omega);exact this
  ·obtain⟨A,p,g,e,B⟩:=h.cK t i;refine⟨(A.below E).kept y ?_,p,g,e,B⟩;intro b j N;simp only[aae]at N;have:=(F t i b j).2;omega
 ·refine acJ.2 ⟨?_,h.apart⟩;intro t i x H U;rw[yR,aae]at H;have:=(F t i x U).1;omega
 ·have e:Q.take (k+1)=Q.take k++[Q[k]]:=by rw[aaZ,AS J];rfl
  rw[e,List.reverse_append,abn,h.mx];rfl
 ·exact y.aQ (h.be.trans (E.mono hs)) (by simp;omega) (by simp;omega)
theorem Al(w B F H Q)(N:w.ownsRow B 112 2 (.slice F Q.length H) Q.length (aW Q))(hl:Q.length<=1000)(hs:∀p,p∈Q->p.1.size<=1000000):
 Calls prog 58 #[.slice F Q.length H] w λe w'=>∃T,e=.returned (.map (some w.heap.size))/\rP w w' w.heap.size Q.length Q T:=by
 have YI:=@run_makeMap prog;have HS:=aj hs;clear hs
 go_enter func58,ntmps58
 go_wp2_with fail
 go_loopw [9] (λi wr=>∃(k:Nat) (T:List GT),k<=Q.length/\i=.int .i64 k/\rP w wr w.heap.size k Q T) (λi _=>Q.length-(intOf i).toNat)
 ·exact⟨0,[],IS _,rfl,⟨⟨_,World.ownsMap_made _ _ _ _,DT⟩,by simp,List.Pairwise.nil,by simp,aM,rfl⟩⟩
 ·
  obtain⟨k,T,hk,rfl,t⟩:=hrel;obtain⟨D,E,O⟩:=t.map;have W:=aj t;have HD:=aj O;have y:=E.isMap;have R9:=E.lt;have q:=t.be;have cp:=q.size;have HB:=aj q;clear O t;by_cases u:k<Q.length
  ·have U:=ae N q;obtain⟨g,rfl,hg,hc,A⟩:=aA U;have Y:=A _ _ (bN Q k u).1;have X:=A _ _ (bN Q k u).2;have As:(Q[k]).1.size<=1000000:=HS.out _ (IN u);have M:Hid (∀j I,j.ownsMap prog 9 cU w.heap.size (k+1) (D.put (bj (Q[k]).1) (.lit (.int .i64 (wr.heap.size+1:Nat))))->((wr.alloc I).alloc (.cells (match Q[k]with | p=>#[.string p.1,.int .i64 p.2,.slice none 0 0]) 125)).grownBy j (some w.heap.size)->rP w j w.heap.size (k+1) Q (BQ Q[k] (wr.heap.size+1)::T)):=λj I a b=>F7 W.out u HD.out y a b;generalize Q[k]=x at Y X As M;have J:keyOf prog 9 (.string x.1)=some (bj x.1):=keyOf_string_mk abK eI;have HK:=aj J;clear J A U q N
   go_wp2_with (at_mapUpdate;go_must (refine aeA _ rfl _ _ _ 102 rfl 9 122 Tryz.fU aec _ w.heap.size k D rfl ((E.alloc _).alloc _) eI _ _ (bj x.1) rfl rfl HK.out (.lit (.int .i64 (wr.heap.size+1:Nat))) [] (by rfl) ?_;intro j cm Z))
   go_roundw
   ·exact⟨k+1,_,by omega,by go_num,M.out _ _ cm Z⟩
   ·simp[intOf];omega
  ·have V:k=Q.length:=by omega
   have HE:Hid (rP w wr w.heap.size Q.length Q T):=by rw[<-V];exact W.out
   clear q V
   go_wp2_with fail
   go_ret;exact⟨T,rfl,HE.out⟩
end
/- facts.CopyGiven. -/
section
open Go.RowKit Go.Maps Go.WideMaps Go.WideElems
def jW(t:GT):ByteArray×Nat×List (List ByteArray):=(t.nm,t.pl,t.L)
theorem Ig(j:(G.map GT.nm).Nodup){left:Lit->Bool}{t}(i:t∈G)(w:left (bj t.nm)=true):
 (ke left G).Perm (t::ke (λz=>left z&&!z.sameKey (bj t.nm)) G):=by
 induction G with
 | nil=>simp at i
 | cons a G ih=>
  simp only[abn,adH]at j;unfold ke at ih ⊢;rcases BY.1 i with rfl | i
  ·have y:G.filter (λz=>left (bj z.nm)&&!(bj z.nm).sameKey (bj t.nm))=G.filter (λz=>left (bj z.nm)):=by
    refine List.filter_congr λz u=>?_;have:(bj z.nm).sameKey (bj t.nm)=false:=sameKey_ne (λe=>j.1 (by rw[<-kL e];exact aaN u));simp[this]
   have x:(bj t.nm).sameKey (bj t.nm)=true:=by simp[Lit.sameKey,bj]
   simp only[List.filter_cons,w,x,y];simp
  ·have q:=ih j.2 i;have:(bj a.nm).sameKey (bj t.nm)=false:=sameKey_ne (λe=>j.1 (by rw[kL e];exact aaN i));simp only[List.filter_cons,this];cases left (bj a.nm)
   ·simpa using q
   ·simp;exact(q.cons a).trans (List.Perm.swap t a _)
structure lL(w wr:World)(mb:Nat)(G R N:List GT):Prop where
 map:∃D,wr.ownsMap prog 9 cU mb N.length D/\OG D (N.map GT.key)
 cK:∀t,t∈N->t.ok wr/\∀b,b∈t.cD->mb+1<b
 apart:N.Pairwise Jb
 data:(N.map jW++R.map jW).Perm (G.map jW)
 be:Below w.heap.size w wr
 V9:mb=w.heap.size
theorem lL.my(h:lL w wr mb G R N):N.length<=G.length:=by
 have:=h.data.length_eq;simp at this;omega
theorem lL.next(h:lL w wr mb G R N)(u:wr.grownBy w1 (some (mb+1)))(A:mb<wr.heap.size):lL w w1 mb G R N:=by
 have i:Kb [mb+1] wr w1:=Kb.eS u;obtain⟨D,⟨es,y,j,q⟩,x⟩:=h.map;have hm:=h.V9;refine⟨⟨D,⟨es,y,i.heap j (by simp),q⟩,x⟩,λt e=>⟨(h.cK t e).1.kept i (λb j=>?_),(h.cK t e).2⟩,h.apart,h.data,i.aQ h.be h.be.size (by simp;omega),hm⟩;have:=(h.cK t e).2 b j;simp;omega
theorem A7{B e size v xs}(h:w.ownsRow B e size v n xs):w.ownsRow 0 e size v n xs:=by
 refine⟨h.1, ?_⟩;rcases h.2 with i | ⟨g,cap,j,t,_,q⟩
 ·exact .inl i
 ·grind
theorem lL.step{j J y E t}(h:lL w w1 mb G R N)(R9:mb+1<w1.heap.size)(Y:R.Perm (t::E))(XC:Tb.Ord t.L)(h3:uW t.L){rd rc}(H:Below w1.heap.size w1 j)
 (O:j.ownsRow w1.heap.size 119 3 (.slice rd t.L.length rc) t.L.length (aT t.L))(h6:J=j.alloc (.cells #[.string t.nm,.int .i64 t.pl,.slice rd t.L.length rc] 125))
 {D}(hD:OG D (N.map GT.key))(hm:IsMap D)(W:y.ownsMap prog 9 cU mb (N.length+1) (D.put (bj t.nm) (.lit (.int .i64 (j.heap.size:Nat)))))(Z:J.grownBy y (some mb)):
 lL w y mb G E (⟨t.nm,t.pl,j.heap.size,rd,rc,t.L⟩::N):=by
 subst h6;have B:Kb [mb] (j.alloc (.cells #[.string t.nm,.int .i64 t.pl,.slice rd t.L.length rc] 125)) y:=Kb.eS Z;have M:Below w1.heap.size w1 (j.alloc (.cells #[.string t.nm,.int .i64 t.pl,.slice rd t.L.length rc] 125)):=H.alloc H.size _;have X:=H.size;have V:=h.be.size;have I:=h.V9;have F:∀b,Value.ownBlock (.slice rd t.L.length rc)=some b->w1.heap.size<=b/\b<j.heap.size:=λb i=>O.lt b i;refine⟨⟨_,W,DM hD hm⟩, ?_, ?_, ?_, ?_,I⟩
 ·intro u q;rcases BY.1 q with rfl | q
  ·refine⟨⟨?_,⟨h3, ?_⟩,XC,by decide⟩, ?_⟩
   ·have:=B.heap (By j _) (by simp;omega);exact this
   ·exact B.row ((A7 O).alloc _) (λb i=>by have:=F b i;simp;omega)
   ·intro b i;simp only[GT.cD,BY,abh]at i;rcases i with rfl | i
    ·omega
    ·have:=F b i;omega
  ·refine⟨((h.cK u q).1.below M).kept B (λb i=>?_),(h.cK u q).2⟩;have:=(h.cK u q).2 b i;simp;omega
 ·refine acJ.2 ⟨?_,h.apart⟩;intro u q x A WV;have U:=(h.cK u q).1.lt WV;simp only[GT.cD,BY,abh]at A;rcases A with rfl | A
  ·omega
  ·have:=F x A;omega
 ·refine List.Perm.trans ?_ h.data;have e:(R.map jW).Perm (jW t::E.map jW):=Y.map jW;have U:(N.map jW++R.map jW).Perm (jW t::(N.map jW++E.map jW)):=(e.append_left _).trans List.perm_middle;exact U.symm
 ·exact B.aQ (h.be.trans (M.mono V)) (by simp;omega) (by simp;omega)
theorem A0(w mb G)(h:qS w mb G)(hs:∀t,t∈G->t.L.length<=999999)(hGl:G.length<=1000):
 Calls prog 126 #[.map (some mb)] w λe w'=>∃N,e=.returned (.map (some w.heap.size))/\lL w w' w.heap.size G [] N:=by
 have YI:=@run_makeMap prog;obtain⟨n,D,aE,hn,hD⟩:=h.map.has;have eB:=aE.lt;have HG:=aj h;have HD:=aj hD;have HS:=aj hs;have e1:(w.alloc (.map #[] 0)).heap.size=w.heap.size+1:=by simp
 clear h hD hs
 go_enter func126,ntmps126
 go_wp2_with (first
  | (at_range;refine wpList_range_own _ rfl _ 102 rfl 9 122 Tryz.fU aec _ mb n _ rfl (aE.alloc _) ?_;intro w0 TT oo F3)
  | go_in)
 go_frame
 rw[e1]at TT F3 ⊢
 go_loopw [9] (λ_ wr=>∃(left:Lit->Bool) (kx:Nat) (N:List GT),wr.ranges prog 9 cU mb (w.heap.size+1) n D left kx/\(∀kl,left kl=true->has D kl=true)/\lL w wr w.heap.size G (ke left G) N)
  (λ_ wr=>wr.rangeLeft mb (w.heap.size+1))
 ·
  have e:ke (has D) G=G:=by
   refine List.filter_eq_self.2 λt I=>?_;rw[(HD.out t.nm).1,kK HG.out.names I];rfl
  refine⟨_,_,[],TT,λ_ h=>h,⟨⟨_,(World.ownsMap_made _ _ _ _).kept oo (by simp),DT⟩,by simp,List.Pairwise.nil,by rw[e];simp,aM.grown oo (by simp) (λj hj=>by cases hj),rfl⟩⟩
 ·
  obtain⟨left,kx,N,I9,Xk,Z⟩:=hrel
  go_wp2_with (first
   | (at_next;refine wpList_next_ranges _ rfl _ rfl 9 Tryz.fU cU Value.string Value.pointer (λkey kl mI=>Maps.keyOf_string_inv abK mI) vz mb (w.heap.size+1) n _ _ _ rfl I9 ?_ ?_)
   | go_in)
  ·intro hc0 DB;rw[zq DB]at Z
   go_wp2
   go_ret;exact⟨N,rfl,Z⟩
  ·intro x c kl y ps w1 Ns F O8 O pJ ME aL eQ iS hen;obtain⟨rfl,t,I,rfl,rfl⟩:=uN HD.out Xk F O8 O pJ;have qC:=ME.lt;have V:=Z.next eQ (by omega);have H:cW w1 t.g 125 t.nm t.pl t.rd t.rc t.L []:=(HG.out.cK t I).below V.be;have P5:=HS.out t I;obtain⟨c2,f2,c1,c0⟩:=H.jG;have rY:=lt_of_heap H.aY;obtain⟨D2,Kw,U⟩:=V.map;have vX:=V.my;have jX:∀q u rd rc,(Below w1.heap.size w1 q/\q.ownsRow w1.heap.size 119 3 (.slice rd t.L.length rc) t.L.length (aT t.L))->u.ownsMap prog 9 cU w.heap.size (N.length+1) (D2.put (bj t.nm) (.lit (.int .i64 (q.heap.size:Nat))))->(q.alloc (.cells #[.string t.nm,.int .i64 t.pl,.slice rd t.L.length rc] 125)).grownBy u (some w.heap.size)->
    ∃B,lL w u w.heap.size G (ke (λz=>left z&&!z.sameKey (bj t.nm)) G) B/\u.ranges prog 9 cU mb (w.heap.size+1) n D (λz=>left z&&!z.sameKey (bj t.nm)) Ns:=by
    intro q u rd rc hh hw hg;obtain⟨A,E⟩:=hh;refine⟨_,V.step (by omega) (Ig HG.out.names I O8) H.ord H.rows.three A E rfl U Kw.isMap hw hg, ?_⟩;have h5:q.ranges prog 9 cU mb (w.heap.size+1) n D (λz=>left z&&!z.sameKey (bj t.nm)) Ns:=ME.kept (row:=none) ⟨A.os,A.tape,A.output,A.size,λi hi _=>A.block i hi⟩ (by simp) (by simp);exact(h5.alloc _).kept hg (λe=>by have:=adR e;omega) (λe=>by have:=adR e;omega)
   have Hl:Hid (∀W,Below w1.heap.size w1 W->Calls prog 133 #[.pointer (some ⟨t.g,0,none⟩)] W λe q=>∃rd rc u,e=.returned (.slice rd t.L.length rc)/\q.cell? ⟨t.g,0,none⟩=some (.string t.nm)/\q.cell? ⟨t.g,1,none⟩=some (.int .i64 t.pl)/\
    (Instr.mapUpdate 102 (.map (some w.heap.size)) (.string t.nm) (.pointer (some ⟨q.heap.size,0,none⟩))).run prog (q.alloc (.cells #[.string t.nm,.int .i64 t.pl,.slice rd t.L.length rc] 125))=.ok () u/\u.cell? ⟨t.g,0,none⟩=some (.string t.nm)/\u.cell? ⟨t.g,1,none⟩=some (.int .i64 t.pl)/\
    Hid (∃B,lL w u w.heap.size G (ke (λz=>left z&&!z.sameKey (bj t.nm)) G) B/\u.ranges prog 9 cU mb (w.heap.size+1) n D (λz=>left z&&!z.sameKey (bj t.nm)) Ns)):=by
    intro W Y;refine(ED W t.g _ _ _ _ _ _ (H.below Y) P5).mono ?_;rintro e q ⟨rd,rc,rfl,q1,q2⟩;have A:Below w1.heap.size w1 q:=Y.trans (q2.mono Y.size);have Y7:=(H.below A).jG;have E:q.ownsMap prog 9 cU w.heap.size N.length D2:=by
     obtain⟨es,ck,hb,hr⟩:=Kw;exact⟨es,ck,by rw[A.block _ (lt_of_heap hb)];exact hb,hr⟩
    obtain⟨u,ze,X,J⟩:=(E.alloc (.cells #[.string t.nm,.int .i64 t.pl,.slice rd t.L.length rc] 125)).update Tryz.fU aec eI F (val:=.pointer (some ⟨q.heap.size,0,none⟩)) (d:=.lit (.int .i64 (q.heap.size:Nat))) (ps:=[]) (by rfl);obtain⟨B,s1,s2⟩:=jX q u rd rc ⟨A,aD q1 Y.size⟩ X J;have M:=cW.jG ((HG.out.cK t I).below s1.be);exact⟨rd,rc,u,rfl,Y7.2.2.2,Y7.2.2.1,ze,M.2.2.2,M.2.2.1,B,s1,s2⟩
   have R1:=aj I9.left_eq;have HLH:=aj Xk;generalize hL:t.L.length=tl at Hl;generalize t.nm=nm at*;generalize t.pl=pl at*;generalize t.g=tg at*;clear jX ME V H c2 f2 Z I9 eQ iS pJ O F aE Xk Kw U hL P5
   go_wp2_with fail
   go_region_held3 (λw'=>w'.cell? ⟨tg,0,none⟩=some (.string nm)/\w'.cell? ⟨tg,1,none⟩=some (.int .i64 pl)) (go_keep) ((go_at_call 133;refine(Hl.out _ (by exact(aaj _ _).drew)).mono ?_;rintro e q ⟨rd,rc,u,rfl,c50,c51,hmu,c70,c71,OO⟩))
   go_wp2_with fail
   go_roundw
   ·
    obtain⟨B,X,J⟩:=OO.out;exact⟨_,Ns,B,J,λkl h=>HLH.out kl (by simp at h;exact h.1),X⟩
   ·
    obtain⟨B,X,J⟩:=OO.out;rw[J.left_eq,R1.out];exact aL
end
/- Package follow: hold. -/
section
open Go.RowKit Go.Maps Go.WideMaps Go.WideElems
open Go.Sort (grow)
theorem Tryz.Oe:(prog.info? 325).map (λi=>(i.zero,i.size,i.bytes))=some (some (.agg #[.string ByteArray.empty,.string ByteArray.empty,.string ByteArray.empty,.string ByteArray.empty]),4,64):=by kernel_rfl
theorem Tryz.Em(w):(zeroValue 97).run prog w=.ok (.pointer none) w:=by kernel_rfl
def Cb(w w':World)(fd:Option Addr)(fc n:Nat):Prop:=∀b,Value.ownBlock (.slice fd n fc)=some b->(∃cur,w'.heap[b]?=some (.cells cur 325 (0,0)))/\∀j,j<n*4->w'.cell? ⟨b,j,none⟩=w.cell? ⟨b,j,none⟩
structure kj(w w':World)(sb mb:Nat)(rv:Value)(fd:Option Addr)(fc:Nat)(T:List HT)(s s':En.dH En.ba):Prop where
 on:∃iU ji T',qp w' sb mb rv iU ji T' s'/\T'.map HT.key=T.map HT.key/\(∀b,b∈eF sb iU ji s'.found.length T'->b∈eF sb fd fc s.found.length T\/w.heap.size<=b)
 kept:Kb (eF sb fd fc s.found.length T) w w'
 cells:Cb w w' fd fc s.found.length
theorem Ft(e:b∈t.cD):b∈eF sb fd fc n (A++t::B):=by
 unfold eF;simp only[BY,ZD,aa9];grind
theorem Br{u q j}(x:aZ w (.slice fd n fc) (.slice u j q))(y:∀b,b∈t'.cD->b∈t.cD\/w.heap.size<=b)(i:b∈eF sb u q j (A++t'::B)):b∈eF sb fd fc n (A++t::B)\/w.heap.size<=b:=by
 unfold eF at i ⊢;rcases BY.1 i with rfl | i
 ·exact .inl (by simp)
 ·rcases ZD.1 i with i | i
  ·rw[abh]at i;rcases x b i with e | e
   ·grind
   ·exact .inr e
  ·grind
theorem rB(i:qp w sb mb rv fd fc (A++t::B) s)(j:Kb t.cD w w1)(u:Value.ownBlock (.slice fd s.found.length fc)=some b):w1.heap[b]?=w.heap[b]?:=by
 obtain⟨y,e⟩:=aP i.fS u;rw[j.block b (lt_of_heap e)];intro q;obtain⟨D,U,e',x⟩:=(i.cK t (by simp)).types q;rw[e]at e';simp only[AT,aa1]at e';rcases x with rfl | rfl | rfl<;>cases e'.2.1
theorem Ua{u:En.dH En.ba}(hs:u.found=s.found)(y:qp w sb mb rv fd fc (A++t::B) s)(h:Ry w1 sb mb rv fd fc (A++t'::B) s.found u)(x:Kb t.cD w w1)(F:∀b,b∈t'.cD->b∈t.cD\/w.heap.size<=b)(E:t'.key=t.key):
 kj w w1 sb mb rv fd fc (A++t::B) s u where
 on:=by
  refine⟨fd,fc,A++t'::B,⟨by rw[hs];exact h.aY,h.map,by rw[hs];exact h.fS,h.cK,h.apart,h.names,h.rows,h.qq,h.zero,h.three,h.short⟩,by simp[E], ?_⟩;intro b q;rw[hs]at q;exact Br (aZ.refl _ _) F q
 kept:=x.mono λi H _=>Ft H
 cells:=λb q=>⟨by obtain⟨D,e⟩:=aP y.fS q;exact⟨D,(rB y x q).trans e⟩,λj _=>adz (rB y x q)⟩
theorem Uz{W w2 I}(hs:I.found=s.found++[f])(O:qp w sb mb rv fd fc (A++t::B) s)(h:Ry w1 sb mb rv fd fc (A++t'::B) s.found I)(M:Kb t.cD w w1)(ht:∀b,b∈t'.cD->b∈t.cD\/w.heap.size<=b)(mI:t'.key=t.key)
 (F:Below w1.heap.size w1 W){g cap}(aE:w2.ownsRow 0 325 4 (.slice (some ⟨g,0,none⟩) (s.found.length+1) cap) (s.found.length+1) (cG s.found++rS f))(jI:W.grownBy w2 (Value.ownBlock (.slice fd s.found.length fc)))(Hf:aZ W (.slice fd s.found.length fc) (.slice (some ⟨g,0,none⟩) (s.found.length+1) cap))
 (vE:∀b:Nat,Value.ownBlock (.slice fd s.found.length fc)=some b->(∃q,w2.heap[b]?=some (.cells q 325 (0,0)))/\∀j,j<s.found.length*4->w2.cell? ⟨b,j,none⟩=W.cell? ⟨b,j,none⟩):
 kj w (w2.setCell ⟨sb,2,none⟩ (.slice (some ⟨g,0,none⟩) (s.found.length+1) cap)) sb mb rv fd fc (A++t::B) s I:=by
 have hlen:I.found.length=s.found.length+1:=by rw[hs];simp
 have Y:Kb (Value.ownBlock (.slice fd s.found.length fc)).toList W w2:=Kb.eS jI;have N:W.ownsRow 0 325 4 (.slice fd s.found.length fc) s.found.length (cG s.found):=ae h.fS F;have wF:∀b,b∈(Value.ownBlock (.slice fd s.found.length fc)).toList->∃q,W.heap[b]?=some (.cells q 325 (0,0)):=by
  intro b D;rw[abh]at D;exact aP N D
 have Va:W.heap[sb]?=some (.cells #[rv,.map (some mb),.slice fd s.found.length fc] 322 (0,0)):=by rw[F.block _ (lt_of_heap h.aY)];exact h.aY
 have UX:w2.heap[sb]?=some (.cells #[rv,.map (some mb),.slice fd s.found.length fc] 322 (0,0)):=by
  refine Y.heap Va ?_;intro y;obtain⟨q,e⟩:=wF sb y;rw[Va]at e;cases e
 have X:=Kb.setCell w2 ⟨sb,2,none⟩ (.slice (some ⟨g,0,none⟩) (s.found.length+1) cap);have Ay:Kb (Value.ownBlock (.slice fd s.found.length fc)).toList w1 w2:=(Kb.bD F _).trans Y;have J:Kb (sb::(Value.ownBlock (.slice fd s.found.length fc)).toList) w1 (w2.setCell ⟨sb,2,none⟩ (.slice (some ⟨g,0,none⟩) (s.found.length+1) cap)):=by
  refine Kb.trans' (Ay.mono λi E _=>adr _ E) X ?_;intro i E _;simp only[aae]at E;subst E;simp
 have iS:w.heap.size<=w1.heap.size:=M.size;refine⟨⟨some ⟨g,0,none⟩,cap,A++t'::B,⟨?_, ?_, ?_, ?_,h.apart,h.names,h.rows,h.qq,h.zero,h.three,h.short⟩,by simp[mI], ?_⟩, ?_, ?_⟩
 ·rw[aC w2 UX,hlen];rfl
 ·refine h.map.kept J ?_;intro y;obtain⟨es,ck,V⟩:=h.map.block;rcases BY.1 y with rfl | y
  ·rw[h.aY]at V;cases V
  ·rw[abh]at y;obtain⟨q,e⟩:=aP h.fS y;rw[V]at e;cases e
 ·rw[hlen,hs];have e:cG (s.found++[f])=cG s.found++rS f:=by simp[cG]
  rw[e];refine X.row aE ?_;intro b D y;simp only[aae]at y;obtain⟨q,e⟩:=aP aE D;rw[y,UX]at e;cases e
 ·intro u Z;refine(h.cK u Z).kept J ?_;intro b D y;obtain⟨q,U,e,hU⟩:=(h.cK u Z).types D;rcases BY.1 y with rfl | y
  ·rw[h.aY]at e;simp only[AT,aa1]at e;rcases hU with rfl | rfl | rfl<;>cases e.2.1
  ·rw[abh]at y;obtain⟨nK,e'⟩:=aP h.fS y;rw[e]at e';simp only[AT,aa1]at e';rcases hU with rfl | rfl | rfl<;>cases e'.2.1
 ·intro b D;refine Br (t:=t) (t':=t') ?_ ht D;intro x hx;rcases Hf x hx with e | e
  ·exact .inl e
  ·exact .inr (aaK (aaK iS F.size) e)
 ·refine Kb.trans' (M.mono λi E _=>Ft E) J ?_;intro i E _;unfold eF;rcases BY.1 E with rfl | E
  ·simp
  ·grind
 ·intro b D;obtain⟨q,e0⟩:=aP O.fS D;obtain⟨aoI,e1⟩:=aP h.fS D;have H:b≠sb:=by
   rintro rfl;rw[O.aY]at e0;cases e0
  obtain⟨⟨CR,e2⟩,Ev⟩:=vE b D;refine⟨⟨CR,(abO _ _ _ _ H).trans e2⟩,λj hj=>?_⟩;have c1:w1.cell? ⟨b,j,none⟩=w.cell? ⟨b,j,none⟩:=adz (rB O M D);have c2:W.cell? ⟨b,j,none⟩=w1.cell? ⟨b,j,none⟩:=F.cell (lt_of_heap e1);rw[<-c1,<-c2,<-Ev j hj];exact adz (abO _ _ _ _ H)
theorem kj.trans{w2:World}{A:Option Addr}{B:Nat}{y:List HT}{t J:En.dH En.ba}(h0:qp w sb mb rv fd fc T s)(hm:qp w1 sb mb rv A B y t)(V:y.map HT.key=T.map HT.key)(O:∀b,b∈eF sb A B t.found.length y->b∈eF sb fd fc s.found.length T\/w.heap.size<=b)
 (M:Kb (eF sb fd fc s.found.length T) w w1)(hc:Cb w w1 fd fc s.found.length)(hlen:s.found.length<=t.found.length)(D:kj w1 w2 sb mb rv A B y t J):kj w w2 sb mb rv fd fc T s J where
 on:=by
  obtain⟨F,H,T2,a,b,c⟩:=D.on;refine⟨F,H,T2,a,b.trans V,λx W=>?_⟩;rcases c x W with e | e
  ·exact O x e
  ·exact .inr (aaK M.size e)
 kept:=M.trans' D.kept λi Z aL=>by
  rcases O i Z with e | e
  ·exact e
  ·omega
 cells:=by
  intro b hb;obtain⟨⟨I,e⟩,Ev⟩:=hc b hb;by_cases aE:Value.ownBlock (.slice A t.found.length B)=some b
  ·obtain⟨t2,c2⟩:=D.cells b aE;grind
  ·have NX:¬b∈eF sb A B t.found.length y:=by
    intro q;unfold eF at q;rcases BY.1 q with rfl | q
    ·rw[hm.aY]at e;cases e
    ·rcases ZD.1 q with q | q
     ·grind
     ·obtain⟨u,X,E⟩:=aa9.1 q;obtain⟨nK,U,e',hU⟩:=(hm.cK u X).types E;rw[e]at e';simp only[AT,aa1]at e';rcases hU with rfl | rfl | rfl<;>cases e'.2.1
   have N:=D.kept.block b (lt_of_heap e) NX;exact⟨⟨I,N.trans e⟩,λj Y=>(adz N).trans (Ev j Y)⟩
theorem kj.refl(h:qp w sb mb rv fd fc T s):kj w w sb mb rv fd fc T s s where
 on:=⟨fd,fc,T,h,rfl,λ_ e=>.inl e⟩
 kept:=Kb.refl _ _
 cells:=λb e=>⟨aP h.fS e,λ_ _=>rfl⟩
end
/- Package follow: hold, walked. -/
section
open Go.RowKit Go.Maps Go.WideMaps Go.WideElems
open Go.Sort (grow)
theorem Ck{α:Type}[DecidableEq α](P:List α){l:List α}(h:l.Nodup)(hm:∀x,x∈l->x∈P):l.length<=P.length:=Ax.GK P l h hm
theorem BC(h:qp w sb mb rv fd fc T s)(e:t∈T):t.L.length<=s.found.length:=by
 have q:(t.L.map λr=>((t.nm,r):En.ba)).Nodup:=by
  have:=(h.cK t e).qw.ord.nodup;grind
 have:=Ck s.found q (λx i=>by
  obtain⟨r,j,rfl⟩:=aax.1 i;exact(h.rows t e r).1 j)
 simpa using this
theorem Bw(h:qp w sb mb rv fd fc T s)(e:t∈T){r}:Tb.eZ t.L r=true↔(t.nm,r)∈s.found:=by
 rw[Tb.bt];exact h.rows t e r
theorem RF(h:f∈s.found):(En.hold s f n).found=s.found:=by
 unfold En.hold;exact aa3 h
theorem Qr(h:¬f∈s.found):(En.hold s f n).found=s.found++[f]:=by
 unfold En.hold;exact aaD h
theorem Cf(w)(sb mb:Nat)(rv fd)(fc:Nat)(A B t s)(h:qp w sb mb rv fd fc (A++t::B) s)(a b c)(n:Nat)(hF:s.found.length<=999990)(hC:∀f,s.count f<=1000000000000)(hn:n<=1000:=by decide):
 Calls prog 187 #[.pointer (some ⟨sb,0,none⟩),.agg #[.string t.nm,.string a,.string b,.string c],.int .i64 n] w λe w'=>e=.returned (.tuple #[])/\kj w w' sb mb rv fd fc (A++t::B) s (En.hold s (t.nm,[a,b,c]) n):=by
 have D:t∈A++t::B:=by simp
 have hLs:=BC h D;obtain⟨w0,M⟩:∃w0,w0=w.alloc (.cells #[.string t.nm,.string a,.string b,.string c] 325):=⟨_,rfl⟩;have cq:Below w.heap.size w w0:=by rw[M];exact aM
 have E:w0.heap[w.heap.size]?=some (.cells #[.string t.nm,.string a,.string b,.string c] 325 (0,0)):=by rw[M];exact By w _
 have F3:w0.heap.size=w.heap.size+1:=by rw[M];simp
 have X:=h.below cq;have x0:=mA E;have x1:=ow E;have x2:=rq E;have x3:=E4 E;have s1:=ow X.aY;have aiJ:sb<w0.heap.size:=lt_of_heap X.aY;have ot:∀W:World,W.heap=w0.heap->(Instr.lookup 103 (.map (some mb)) (.string t.nm) false).run prog W=.ok (.pointer (some ⟨t.g,0,none⟩)) W:=by
  intro W J;have hm:iM W mb ((A++t::B).map HT.pk):=by
   obtain⟨q1,q2,⟨es,ck,q3,q4⟩,q5,q6⟩:=X.map.has;exact⟨q1,q2,⟨es,ck,by rw[J];exact q3,q4⟩,q5,q6⟩
  exact hm.look (sy h.names D) (h.short t D) adV (Tryz.Em W)
 have rE:=ot w0.drew rfl;have N:∀W:World,W.heap=w0.heap->Below w0.heap.size w0 W->Calls prog 230 #[.pointer (some ⟨t.g,0,none⟩),.agg #[.string a,.string b,.string c],.int .i64 n] W λe w1=>e=.returned (.bool (!Tb.eZ t.L [a,b,c]))/\∃t',Ry w1 sb mb rv fd fc (A++t'::B) s.found (En.hold s (t.nm,[a,b,c]) n)/\Kb t.cD w w1/\(∀q,q∈t'.cD->q∈t.cD\/w.heap.size<=q)/\t'.key=t.key/\w1.heap[w.heap.size]?=some (.cells #[.string t.nm,.string a,.string b,.string c] 325 (0,0)):=by
  intro W J jZ;have V:Below w.heap.size w W:=cq.trans (jZ.mono cq.size);have dR:=(h.cK t D).below V;refine(QL W t.g t.nm t.pl t.rd t.rc t.cd t.cc t.L t.C a b c n dR (by omega) hn ?_).mono ?_
  ·intro x hx;rw[h.qq t D]at hx;obtain⟨r,_,rfl⟩:=aax.1 hx;exact hC _
  ·rintro e w1 ⟨rd',rc',cd',cc',rfl,q1,q2,q3,q4⟩;obtain⟨i,I,F⟩:=h.mid V (r:=[a,b,c]) (n:=n) rfl (rd':=rd') (rc':=rc') (cd':=cd') (cc':=cc') q1 q2 q3 q4;refine⟨rfl,_,i,I,F,rfl, ?_⟩;refine q2.heap (by rw[J];exact E) ?_;intro hc;have:=HT.ok.lt (h.cK t D) hc;omega
 clear ot;by_cases O:(t.nm,[a,b,c])∈s.found
 ·have u:Tb.eZ t.L [a,b,c]=true:=(Bw h D).2 O;have Xw:Hid ((En.hold s (t.nm,[a,b,c]) n).found=s.found):=RF O;rw[u]at N;have H:=aj h;clear O u h X E
  go_enter func187,ntmps187
  go_wp2_with fail
  rw[<-M];clear M
  go_region_with (go_at_call 230;refine(N _ (by rfl) (by exact(aaj _ _).drew)).mono ?_;rintro e w1 ⟨rfl,t',i,I,F,U,y⟩)
  all_goals
   (have et:=Ua Xw.out H.out i I F U
    clear i I F U y N rE x0 x1 x2 x3 s1
    go_wp2_with fail
    go_end0;exact⟨rfl,et⟩)
 ·have u:Tb.eZ t.L [a,b,c]=false:=by
   rw[acZ];exact λe=>O ((Bw h D).1 e)
  have Xw:Hid ((En.hold s (t.nm,[a,b,c]) n).found=s.found++[(t.nm,[a,b,c])]):=Qr O;rw[u]at N;have H:=aj h;obtain⟨i0,fC,cE,ch,cz⟩:=abF Tryz.Oe;have HI:=aj fC;have H0:=aj cE;have H1:=aj ch;have H2:=aj cz;clear O u h X E fC cE ch cz
  go_enter func187,ntmps187
  go_wp2_with fail
  rw[<-M];clear M
  go_upto_region 1 with fail
  go_cut [16]from 6 (λbv wx=>bv=.bool true/\∃t',Ry wx sb mb rv fd fc (A++t'::B) s.found (En.hold s (t.nm,[a,b,c]) n)/\Kb t.cD w wx/\(∀q,q∈t'.cD->q∈t.cD\/w.heap.size<=q)/\t'.key=t.key/\wx.heap[w.heap.size]?=some (.cells #[.string t.nm,.string a,.string b,.string c] 325 (0,0)))
  ·
   go_region_with (go_at_call 230;refine(N _ (by rfl) (by exact(aaj _ _).drew)).mono ?_;rintro e w1 ⟨rfl,aeg⟩)
   all_goals (go_wp2_with fail;go_meet;exact⟨rfl,aeg⟩)
  ·
   obtain⟨rfl,t',i,I,F,U,y⟩:=hcut;have y0:=mA y;have y1:=ow y;have y2:=rq y;have y3:=E4 y;have z2:=rq i.aY;have Z:sb<wc.heap.size:=lt_of_heap i.aY;have apO:w.heap.size<wc.heap.size:=lt_of_heap y;have Nz:=i.fS;have et:∀W w2:World,Below wc.heap.size wc W->∀g cap,w2.ownsRow 0 325 4 (.slice (some ⟨g,0,none⟩) (s.found.length+1) cap) (s.found.length+1) (cG s.found++[.string t.nm,.string a,.string b,.string c])->W.grownBy w2 (Value.ownBlock (.slice fd s.found.length fc))->aZ W (.slice fd s.found.length fc) (.slice (some ⟨g,0,none⟩) (s.found.length+1) cap)->
    (∀q:Nat,Value.ownBlock (.slice fd s.found.length fc)=some q->(∃Y,w2.heap[q]?=some (.cells Y 325 (0,0)))/\∀j,j<s.found.length*4->w2.cell? ⟨q,j,none⟩=W.cell? ⟨q,j,none⟩)->kj w (w2.setCell ⟨sb,2,none⟩ (.slice (some ⟨g,0,none⟩) (s.found.length+1) cap)) sb mb rv fd fc (A++t::B) s (En.hold s (t.nm,[a,b,c]) n)/\(∃v,w2.cell? ⟨sb,2,none⟩=some v)/\w2.frozen? ⟨sb,2,none⟩=false:=by
    intro W w2 J g cap e1 e2 e3 e4;refine⟨Uz Xw.out H.out i I F U J e1 e2 e3 e4, ?_⟩;have cX:w2.heap[sb]?=some (.cells #[rv,.map (some mb),.slice fd s.found.length fc] 322 (0,0)):=by
     rw[e2.block sb (aa7 Z J.size) ?_,J.block _ Z]
     ·exact i.aY
     ·intro hc;obtain⟨Y,e⟩:=aP i.fS hc.symm;rw[i.aY]at e;cases e
    exact⟨⟨_,by rw[aaB _ _ 2 _ _ _ cX];rfl⟩,by simp[World.frozen?,cX]⟩
   clear i I F U y N rE x0 x1 x2 x3 s1
   go_upto_region 2 with fail
   go_region_law (refine iV _ rfl (.tmp 21) (.tmp 23) 320 rfl 0 325 i0 _ 4 64 Tryz.underlying320 HI.out H0.out H1.out H2.out rfl (by decide) (.slice fd s.found.length fc) s.found.length (cG s.found) (by simp[Act.eval,Act.put]) (by exact Nz.alloc _) ⟨wc.heap.size,0,none⟩ 1 1 [.string t.nm,.string a,.string b,.string c] (by simp[Act.eval,Act.put]) rfl (by exact abC (By _ _)) (by simp[Value.oneCell']) (by decide) eI (by omega) (by simp) ?_;intro g2 sQ w2 e1 e2 e3 e4;obtain⟨qo,⟨v2,Zf⟩,ad0⟩:=et _ w2 (aM.drew) g2 sQ e1 e2 e3 e4)
   all_goals (first | (go_end0;exact⟨rfl,qo⟩) | (go_wp2_with fail;go_end0;exact⟨rfl,qo⟩))
end
variable{a:Ax.Atom}{s:En.dH En.ba}{T:List HT}{sb mb fc ac bc:Nat}{fd ad bd:Option Addr}{rv:Value}{w w':World}
section
open Go.RowKit Go.Maps Go.WideMaps Go.WideElems
open Go.Sort (grow)
structure YQ(a:Ax.Atom):Prop where
 three:a.af.length<=3
 kinds:∀t,t∈a.af->t.kind=0\/t.kind=1
theorem kj.pre{w1:World}{q:En.dH En.ba}(h:kj w1 w' sb mb rv fd fc T s q)(i:Below w.heap.size w w1)(E:qp w sb mb rv fd fc T s):kj w w' sb mb rv fd fc T s q where
 on:=by
  obtain⟨A,y,H,a,b,c⟩:=h.on;refine⟨A,y,H,a,b,λx B=>?_⟩;rcases c x B with e | e
  ·exact .inl e
  ·exact .inr (aaK i.size e)
 kept:=(Kb.bD i _).trans h.kept
 cells:=by
  intro b t;obtain⟨F,e⟩:=aP E.fS t;obtain⟨u,c1⟩:=h.cells b t;exact⟨u,λj D=>(c1 j D).trans (i.cell (lt_of_heap e))⟩
theorem E9{b}(h:a.af.length<=3):∃x y z,En.iG (En.val b) a=(a.pred,[x,y,z])/\lG a.pred (im (PA a.af (En.val b)) a.af.length)=#[.string a.pred,.string x,.string y,.string z]:=by
 obtain⟨x,y,z,e⟩:=LA (l:=a.af.map (En.dS (En.val b))) (by simpa using h);refine⟨x,y,z,by unfold En.iG;rw[e], ?_⟩;rw[QY h,e];rfl
theorem tB(w:World)(sb mb:Nat)(rv:Value)(fd)(fc:Nat)(A B)(t:HT)(s:En.dH En.ba)(h:qp w sb mb rv fd fc (A++t::B) s)(Z:s.found.length<=999990)(hC:∀f,s.count f<=1000000000000)
 (a:Ax.Atom)(ad)(ac:Nat){bv:Value}(J:MA.ok w (a,.slice ad a.af.length ac))(q:YQ a)(j:a.pred=t.nm)(b:En.Bind)(n:Nat)(X Y:Nat->ByteArray)(I:D1 b n X Y)(bd)(F bc:Nat)(D:bv=.slice bd F bc):
 Calls prog 231 #[.pointer (some ⟨sb,0,none⟩),.agg #[.int .i64 a.at_,.string a.pred,.slice ad a.af.length ac,bv],.agg (cY n X Y)] w λe w'=>e=.returned (.tuple #[])/\kj w w' sb mb rv fd fc (A++t::B) s (En.hold s (En.iG (En.val b) a) 1):=by
 subst D;obtain⟨x,y,z,N,M⟩:=E9 (b:=b) q.three;rw[N,j];have Uh:Hid (∀W:World,Below w.heap.size w W->∀g,W.heap[g]?=some (.cells (cY n X Y) 369 (0,0))->Calls prog 265 #[.pointer (some ⟨g,0,none⟩),.agg #[.int .i64 a.at_,.string t.nm,.slice ad a.af.length ac]] W λe w'=>e=.returned (.agg #[.string t.nm,.string x,.string y,.string z])/\Below W.heap.size W w'):=by
  intro W i g V;have O:=Rz W g n X Y b I V a ad ac (ae J i) q.kinds q.three;rw[j]at O;refine O.mono ?_;rintro e w' ⟨E,rfl⟩;rw[<-j,M];exact⟨rfl,E⟩
 have u:Hid (∀W:World,Below w.heap.size w W->Calls prog 187 #[.pointer (some ⟨sb,0,none⟩),.agg #[.string t.nm,.string x,.string y,.string z],.int .i64 1] W λe w'=>e=.returned (.tuple #[])/\kj w w' sb mb rv fd fc (A++t::B) s (En.hold s (t.nm,[x,y,z]) 1)):=by
  intro W i;refine(Cf W sb mb rv fd fc A B t s (h.below i) x y z 1 Z hC).mono ?_;rintro e w' ⟨rfl,E⟩;exact⟨rfl,E.pre i h⟩
 clear N M J q I h j;have Im:Hid (∀W:World,W.heap=((w.alloc (.cells #[.int .i64 a.at_,.string t.nm,.slice ad a.af.length ac,.slice bd F bc] 222)).alloc (.cells (cY n X Y) 369)).heap->W.heap[w.heap.size+1]?=some (.cells (cY n X Y) 369 (0,0))):=λW i=>by rw[i];exact nH w _ _
 have H:Hid (Below w.heap.size w ((w.alloc (.cells #[.int .i64 a.at_,.string t.nm,.slice ad a.af.length ac,.slice bd F bc] 222)).alloc (.cells (cY n X Y) 369))):=aM.alloc (by simp) _
 go_enter func231,ntmps231
 go_wp2_with (first | (go_at_call 265;refine(Uh.out _ (by exact H.out) _ (by exact Im.out _ rfl)).mono ?_;rintro e w1 ⟨rfl,aV⟩) | (go_at_call 187;refine(u.out _ (by exact H.out.trans (aV.mono H.out.size))).mono ?_;rintro e w2 ⟨rfl,U⟩))
 go_end0;exact⟨rfl,U⟩
end
/- Package follow: join. -/
section
open Go.RowKit Go.Maps Go.WideMaps Go.WideElems
open Go.Sort (grow)
theorem W6(w)(b0:En.Bind)(i:Nat)(A t:Nat->ByteArray)(J:D1 b0 i A t)(a:Ax.Atom)(ad:Option Addr)(ac:Nat)(pr x y z)
 (F:MA.ok w (a,.slice ad a.af.length ac))(D:YQ a)(E:i+a.af.length<=6):
 Calls prog 266 #[.agg (cY i A t),.agg #[.int .i64 a.at_,.string a.pred,.slice ad a.af.length ac],.agg #[.string pr,.string x,.string y,.string z]] w λe w'=>∃n1 u q ok,e=.returned (.tuple #[.agg (cY n1 u q),.bool ok])/\Below w.heap.size w w'/\
  Hid ((ok=false/\En.bO a (pr,[x,y,z]) b0=none)\/(ok=true/\∃b1,En.bO a (pr,[x,y,z]) b0=some b1/\D1 b1 n1 u q/\n1<=i+a.af.length)):=by
 refine(MB w b0 i A t J a ad ac pr x y z F D.kinds D.three E).mono ?_;rintro e w' ⟨B,⟨j,rfl⟩ | ⟨b1,n1,u,q,j,I,H,rfl⟩⟩
 ·exact⟨_,_,_,_,rfl,B,.inl ⟨rfl,j⟩⟩
 ·exact⟨_,_,_,_,rfl,B,.inr ⟨rfl,b1,j,I,H⟩⟩
theorem Lc{l}(h:Yr l){k}(q:k<l.length){p a b c}(e:l[k]=(p,[a,b,c])):
 (cG l)[k*4]?=some (.string p)/\(cG l)[k*4+1]?=some (.string a)/\(cG l)[k*4+2]?=some (.string b)/\(cG l)[k*4+3]?=some (.string c):=by
 induction l generalizing k with
 | nil=>simp at q
 | cons f l ih=>
  have u:(rS f).length=4:=by simp[rS,h f (by simp)]
  have i:∀j,(cG (f::l))[j+4]?=(cG l)[j]?:=by
   intro j;have:cG (f::l)=rS f++cG l:=by simp[cG]
   rw[this,abr (by omega)];congr 1;omega
  cases k with
  | zero=>
   simp only[List.getElem_cons_zero]at e;subst e;simp[cG,rS]
  | succ k=>
   have:=ih (λx t=>h x (by simp[t])) (k:=k) (by simpa using q) (by simpa using e);rw[show(k+1)*4=k*4+4 by omega,show k*4+4+1=k*4+1+4 by omega,show k*4+4+2=k*4+2+4 by omega,show k*4+4+3=k*4+3+4 by omega,i,i,i,i];exact this
structure xB(w:World)(a:Ax.Atom)(ad:Option Addr)(ac:Nat)(bd:Option Addr)(bc:Nat)(body:List MA):Prop where
 mr:MR.ok w ⟨(a,.slice ad a.af.length ac),.slice bd body.length bc,body⟩
 head:YQ a
 atoms:∀x,x∈body->YQ x.1
 two:body.length<=2
theorem xB.below{body}(h:xB w a ad ac bd bc body)(e:Below w.heap.size w w'):xB w' a ad ac bd bc body:=⟨MR.below h.mr e,h.head,h.atoms,h.two⟩
theorem MA.J8{S x}(h:MA.ok w x)(j:Kb S w w')(t:∀b i,b∈S->w.heap[b]?=some (.cells i 310 (0,0))->False):MA.ok w' x:=by
 refine j.row h ?_;intro b q hm;obtain⟨i,e⟩:=aP h q;exact t b i hm e
theorem xB.search{t body}(h:xB w a ad ac bd bc body)(A:qp w sb mb rv fd fc T s)(hs:kj w w' sb mb rv fd fc T s t):xB w' a ad ac bd bc body:=by
 have B:∀b i U,b∈eF sb fd fc s.found.length T->w.heap[b]?=some (.cells i U (0,0))->U=322\/U=325\/U=117\/U=119\/U=3:=by
  intro b i U j e;obtain⟨D,E,e',y⟩:=lW A j;rw[e]at e';simp only[AT,aa1]at e';rw[e'.2.1];exact y
 have q:∀b i,b∈eF sb fd fc s.found.length T->w.heap[b]?=some (.cells i 310 (0,0))->False:=by grind
 refine⟨⟨MA.J8 h.mr.1 hs.kept q,hs.kept.row h.mr.2.1 ?_,λx u=>MA.J8 (h.mr.2.2 x u) hs.kept q⟩,h.head,h.atoms,h.two⟩;intro b j hm;obtain⟨i,e⟩:=aP h.mr.2.1 j;have:=B b i _ hm e;rcases this with e | e | e | e | e<;>cases e
theorem nJ{p}(h:p∈T.map HT.nm):∃A t B,T=A++t::B/\p=t.nm:=by
 obtain⟨t,i,rfl⟩:=aax.1 h;obtain⟨A,B,e⟩:=List.append_of_mem i;exact⟨A,t,B,e,rfl⟩
theorem kE{i:List HT}(h:i.map HT.key=T.map HT.key):i.map HT.nm=T.map HT.nm:=by
 have e:∀l:List HT,l.map HT.nm=(l.map HT.key).map Prod.fst:=λl=>by rw[aey];rfl
 rw[e,e,h]
theorem KT(w i e):Below w.heap.size w ((w.alloc i).alloc e)/\((w.alloc i).alloc e).heap.size=w.heap.size+2/\((w.alloc i).alloc e).heap[w.heap.size]?=some i/\((w.alloc i).alloc e).heap[w.heap.size+1]?=some e:=by
 refine⟨aM.alloc (by simp) _,by simp, ?_,nH w _ _⟩;rw[aay _ _ _ (by simp)];exact By w _
theorem Rr(w:World)(sb mb:Nat)(rv:Value)(fd)(fc:Nat)(T)(s:En.dH En.ba)(h:qp w sb mb rv fd fc T s)(F:s.found.length<=999990)(H:∀f,s.count f<=1000000000000)
 (a:Ax.Atom)(ad)(ac:Nat)(bd)(bc:Nat)(body)(u:xB w a ad ac bd bc body)(D:a.pred∈T.map HT.nm)(b:En.Bind)(n:Nat)(X Y:Nat->ByteArray)(E:D1 b n X Y)(turn br:Nat):
 Calls prog 232 #[.pointer (some ⟨sb,0,none⟩),.agg #[.int .i64 a.at_,.string a.pred,.slice ad a.af.length ac,.slice bd body.length bc],.int .i64 body.length,.int .i64 turn,.int .i64 br,.agg (cY n X Y)] w λe w'=>e=.returned (.tuple #[])/\kj w w' sb mb rv fd fc T s (En.hold s (En.iG (En.val b) a) 1):=by
 obtain⟨A,t,B,rfl,I⟩:=nJ D;have y:Hid (∀W:World,Below w.heap.size w W->Calls prog 231 #[.pointer (some ⟨sb,0,none⟩),.agg #[.int .i64 a.at_,.string a.pred,.slice ad a.af.length ac,.slice bd body.length bc],.agg (cY n X Y)] W λe w'=>e=.returned (.tuple #[])/\kj w w' sb mb rv fd fc (A++t::B) s (En.hold s (En.iG (En.val b) a) 1)):=by
  intro W x;refine(tB W sb mb rv fd fc A B t s (h.below x) F H a ad ac (u.below x).mr.1 u.head I b n X Y E bd body.length bc rfl).mono ?_;rintro e w' ⟨rfl,Z⟩;exact⟨rfl,Z.pre x h⟩
 generalize En.hold s (En.iG (En.val b) a) 1=s' at y ⊢;clear h u D E F H I
 go_enter func232,ntmps232
 go_upto_region 1 with fail
 obtain⟨q,U,j,i⟩:=KT w (.cells #[.int .i64 a.at_,.string a.pred,.slice ad a.af.length ac,.slice bd body.length bc] 222) (.cells (cY n X Y) 369);generalize (w.alloc (.cells #[.int .i64 a.at_,.string a.pred,.slice ad a.af.length ac,.slice bd body.length bc] 222)).alloc (.cells (cY n X Y) 369)=w0 at q U j i ⊢;have ZO:=aj q;have Qb:w.heap.size<w0.heap.size:=by omega
 have aah:w.heap.size+1<w0.heap.size:=by omega
 have r0:=mA j;have r1:=ow j;have r2:=rq j;have r3:=E4 j;have q0:=mA i;have q1:=ow i;have q2:=rq i;have q3:=E4 i;have q4:=Zo i;have q5:=Zn i;have q6:=Y5 i;have q7:=Zj i;have q8:=YM i;have q9:=ZK i;have O:=Lj i;have N:=Ls i;have M:=Mz i;clear q j i;have J:cY n X Y=#[.int .i64 n,.string (X 0),.string (Y 0),.string (X 1),.string (Y 1),.string (X 2),.string (Y 2),.string (X 3),.string (Y 3),.string (X 4),.string (Y 4),.string (X 5),.string (Y 5)]:=rfl;rw[J]at y;clear J
 go_wp2_with (first | (go_at_call 231;refine(y.out _ (by exact ZO.out)).mono ?_;rintro e w2 ⟨rfl,V⟩))
 exact aaT (by simp[results,Tryz.results232,go_sem]) rfl ⟨rfl,V⟩
end
/- Package follow: join, one atom further. -/
namespace En
theorem QV(s:dH ba)(f:ba)(n):s.found.length<=(hold s f n).found.length/\(hold s f n).found.length<=s.found.length+1:=by
 unfold hold;simp only;split<;>simp
theorem mP:∀(l:List ba) (s:dH ba),s.found.length<=(holds s l).found.length/\(holds s l).found.length<=s.found.length+l.length
 | [],s=>⟨OF _,OF _⟩
 | f::l,s=>by
  rw[kY];have i:=QV s f 1;have e:=mP l (hold s f 1);rw[abL];omega
theorem iz{F}[DecidableEq F](l)(s:dH F)(f):(holds s l).count f<=s.count f+l.length:=by
 obtain⟨_,_,_,_,_,h⟩:=ia l s;rw[h f];grind
theorem rL(l)(s:dH ba){m}(hm:m<=s.found.length):(holds s l).found.take m=s.found.take m:=by
 obtain⟨t,h,_⟩:=ia l s;rw[h,adi hm]
def Ol(P:List ba)(z:ba)(turn:Nat)(h:Ax.Atom)(i:Nat)(a:Ax.Atom)(l:List Ax.Atom)(b:Bind)(f:ba):List ba:=match bO a f b with
 | some b'=>jn P z turn h (i+1) l b'
 | none=>[]
theorem TL(P)(z:ba)(turn h i a l b):jn P z turn h i (a::l) b=(sP P z turn i).flatMap (Ol P z turn h i a l b):=rfl
def qT(turn br i:Nat):Nat:=if i=turn then br else 0
def Vw(turn br i:Nat):Nat:=if i=turn then br+1 else if i<turn then br else br+1
theorem Fi{F P:List ba}{z:ba}{e:Nat}(q:P.length=e)(t:F.take (e+1)=P++[z])(turn i:Nat):sP P z turn i=(F.take (Vw turn e i)).drop (qT turn e i):=by
 have j:F.take e=P:=by
  have:=abu (List.take e) t;rw[aez,aeQ (by omega)]at this;rw[this];exact aeB q
 unfold sP Vw qT;by_cases u:i=turn
 ·grind
 ·grind
end En
section
open Go.RowKit Go.Maps Go.WideMaps Go.WideElems
open Go.Sort (grow)
def KF(sb mb:Nat)(rv:Value)(a:Ax.Atom)(ad:Option Addr)(ac:Nat)(bd:Option Addr)(bc:Nat)(body:List MA)(P:List En.ba)(z:En.ba)(turn br i:Nat):Prop:=
 ∀(w:World) (fd:Option Addr) (fc:Nat) (T:List HT) (s:En.dH En.ba) (b:En.Bind) (n:Nat) (X Y:Nat->ByteArray),qp w sb mb rv fd fc T s->xB w a ad ac bd bc body->D1 b n X Y->n<=3*i->a.pred∈T.map HT.nm->br<s.found.length->s.found.take (br+1)=P++[z]->
  s.found.length+(En.jn P z turn a i ((body.drop i).map Prod.fst) b).length<=999990->(∀f,s.count f+(En.jn P z turn a i ((body.drop i).map Prod.fst) b).length<=1000000000000)->
  Calls prog 232 #[.pointer (some ⟨sb,0,none⟩),.agg #[.int .i64 a.at_,.string a.pred,.slice ad a.af.length ac,.slice bd body.length bc],.int .i64 i,.int .i64 turn,.int .i64 br,.agg (cY n X Y)] w λe w'=>e=.returned (.tuple #[])/\kj w w' sb mb rv fd fc T s (En.holds s (En.jn P z turn a i ((body.drop i).map Prod.fst) b))
theorem sq(h:qp w sb mb rv fd fc T s){b}(i:b∈eF sb fd fc s.found.length T):b<w.heap.size:=by
 obtain⟨j,U,e,_⟩:=lW h i;exact lt_of_heap e
theorem Lz{f:En.ba}(h:f.2.length=3):∃p x y z,f=(p,[x,y,z]):=by
 obtain⟨p,r⟩:=f;obtain⟨x,y,z,e⟩:=xR h;exact⟨p,x,y,z,by rw[<-e]⟩
theorem kj.post{w1 w2:World}{t:En.dH En.ba}(h:kj w w1 sb mb rv fd fc T s t)(i:Below w1.heap.size w1 w2):kj w w2 sb mb rv fd fc T s t where
 on:=by
  obtain⟨x,u,B,a,b,c⟩:=h.on;exact⟨x,u,B,a.below i,b,c⟩
 kept:=h.kept.below i
 cells:=by
  intro b A;obtain⟨⟨q,e⟩,c⟩:=h.cells b A;exact⟨⟨q,by rw[i.block b (lt_of_heap e)];exact e⟩,λj y=>(i.cell (lt_of_heap e)).trans (c j y)⟩
theorem MU{α β:Type}(G:α->List β)(cs:List α){k}(e:k<cs.length):(cs.take (k+1)).flatMap G=(cs.take k).flatMap G++G cs[k]:=by
 rw[acI e,abQ];simp
theorem ng{α β:Type}(G:α->List β)(cs:List α)(k):((cs.take k).flatMap G).length<=(cs.flatMap G).length:=by
 conv=>rhs;rw[<-ab7 k cs,abQ,If]
 omega
theorem Mg{body P z turn q}:KF sb mb rv a ad ac bd bc body P z turn q body.length:=by
 intro w fd fc T s b n X Y h t y A u x B i j;have e:En.jn P z turn a body.length ((body.drop body.length).map Prod.fst) b=[En.iG (En.val b) a]:=by
  rw[List.drop_length];rfl
 rw[e]at i j ⊢;exact Rr w sb mb rv fd fc T s h (by simp at i;omega) (λf=>by have:=j f;omega) a ad ac bd bc body t u b n X Y y turn q
theorem Oz{body P z turn B i}(hi:i<body.length)(Ez:P.length=B)(qt:B<=999990)(IW:turn<=10)(IH:KF sb mb rv a ad ac bd bc body P z turn B (i+1)):KF sb mb rv a ad ac bd bc body P z turn B i:=by
 intro w fd fc T s b n X Y h hr hb hn hp hnw XG hF hC;have h2:=hr.two;obtain⟨A,hma⟩:∃A,body[i]=A:=⟨_,rfl⟩;have gy:A∈body:=by rw[<-hma];exact IN hi
 have hao:=hr.atoms A gy;have P6:(body.drop i).map Prod.fst=A.1::(body.drop (i+1)).map Prod.fst:=by rw[aan hi,hma];rfl
 rw[P6,En.TL,En.Fi Ez XG]at hF hC ⊢;obtain⟨cs,bA⟩:∃cs,cs=(s.found.take (En.Vw turn B i)).drop (En.qT turn B i):=⟨_,rfl⟩;have zT:En.qT turn B i<=En.Vw turn B i/\En.Vw turn B i<=B+1/\En.qT turn B i<=B:=by
  unfold En.qT En.Vw;split
  ·omega
  ·split<;>omega
 have AG:cs.length=En.Vw turn B i-En.qT turn B i:=by rw[bA];simp only[acP,abv];omega
 have Rp:∀k (hk:k<cs.length),∃(hq:En.qT turn B i+k<s.found.length),cs[k]=s.found[En.qT turn B i+k]:=by
  intro k hk;refine⟨by omega, ?_⟩;simp only[bA,List.getElem_drop,List.getElem_take]
 rw[<-bA]at hF hC ⊢;obtain⟨E,tq⟩:∃E,E=En.qT turn B i:=⟨_,rfl⟩;obtain⟨V,XC⟩:∃V,V=En.Vw turn B i:=⟨_,rfl⟩;rw[<-tq,<-XC]at zT AG;rw[<-tq]at Rp;have VC:Hid (E=if i=turn then B else 0):=by exact tq
 have R3:Hid (V=if i=turn then B+1 else if i<turn then B else B+1):=by exact XC
 clear bA tq XC P6;generalize hG:En.Ol P z turn a i A.1 ((body.drop (i+1)).map Prod.fst) b=G at hF hC ⊢;have HG:=aj hG;clear hG;obtain⟨Z,efd,MJ,Hi,aaG⟩:=aA h.fS;subst efd;obtain⟨xd,xc,pW⟩:=ah (hr.mr.2.2 A gy);obtain⟨N,ebd,K7,yA,Jp⟩:=aA hr.mr.2.1;subst ebd;have hblk:=h.aY;have HH:=aj h;have mB:=aj hr
 go_enter func232,ntmps232
 go_upto_region 1 with fail
 obtain⟨jb,js,jr,jx⟩:=KT w (.cells #[.int .i64 a.at_,.string a.pred,.slice ad a.af.length ac,.slice (some ⟨N,0,none⟩) body.length bc] 222) (.cells (cY n X Y) 369);generalize (w.alloc (.cells #[.int .i64 a.at_,.string a.pred,.slice ad a.af.length ac,.slice (some ⟨N,0,none⟩) body.length bc] 222)).alloc (.cells (cY n X Y) 369)=w0 at jb js jr jx ⊢;have Qb:w.heap.size<w0.heap.size:=by omega
 have aah:w.heap.size+1<w0.heap.size:=by omega
 have r3:=E4 jr;have cB:¬((i:Int)=(body.length:Int)):=by omega
 have ahc:((i:Int)==(body.length:Int))=false:=by simp;omega
 have s2:=rq (HH.out.below jb).aY;have aiJ:sb<w0.heap.size:=lt_of_heap (HH.out.below jb).aY;have H0:Hid (qp w0 sb mb rv (some ⟨Z,0,none⟩) fc T s):=HH.out.below jb
 go_upto_if 31 with fail
 go_cut [12,13]from 29 (λfv tv wx=>fv=.int .i64 E/\tv=.int .i64 V/\wx=w0)
 ·
  by_cases c1:i=turn
  ·have e1:Hid (E=B):=by have:=VC.out;rw[aa3 c1]at this;exact this
   have e2:Hid (V=B+1):=by have:=R3.out;rw[aa3 c1]at this;exact this
   have aV:((i:Int)==(turn:Int))=true:=by simp;omega
   clear c1
   go_wp2_with fail
   go_meet
   case rel=>exact⟨by rw[e1.out],by rw[e2.out];rfl,rfl⟩
  ·have aV:((i:Int)==(turn:Int))=false:=by simp;omega
   by_cases c2:i<turn
   ·have e1:Hid (E=0):=by have:=VC.out;rw[aaD c1]at this;exact this
    have e2:Hid (V=B):=by have:=R3.out;rw[aaD c1,aa3 c2]at this;exact this
    clear c1
    go_wp2_with fail
    go_meet
    case rel=>exact⟨by rw[e1.out];rfl,by rw[e2.out],rfl⟩
   ·have e1:Hid (E=0):=by have:=VC.out;rw[aaD c1]at this;exact this
    have e2:Hid (V=B+1):=by have:=R3.out;rw[aaD c1,aaD c2]at this;exact this
    clear c1
    go_wp2_with fail
    go_meet
    case rel=>exact⟨by rw[e1.out];rfl,by rw[e2.out];rfl,rfl⟩
 ·
  obtain⟨rfl,rfl,hwx⟩:=hcut;have af6:=hwx.symm;subst af6;have g1:(E:Int)<=V:=by omega
  have g2:V<=fc:=by omega
  have g3:¬(fc=E):=by omega
  have g4:E<=V:=zT.1;have hff:=aH HH.out.fS;have ZO:=aj jb;have HJR:=aj jr;have HJX:=aj jx;have HCS:=aj Rp;have HHF:=aj hF;have HHC:=aj hC;have W8:=aj aaG;have HPZ:=aj XG;clear Jp aaG Rp hF hC h hr jb jr jx XG cB ahc r3 hblk
  go_upto_region 9 with fail
  have anw:V-E<=cs.length:=by omega
  have aqd:cs.length<=V-E:=by omega
  go_loopw [45] (λiv wr=>∃k:Nat,k<=cs.length/\iv=.int .i64 k/\kj w0 wr sb mb rv (some ⟨Z,0,none⟩) fc T s (En.holds s ((cs.take k).flatMap G))) (λiv _=>cs.length-(intOf iv).toNat)
  ·exact⟨0,IS _,rfl,kj.refl H0.out⟩
  ·
   obtain⟨k,hk,rfl,jR⟩:=hrel;have HS:=aj jR;clear jR;have E6:w0.heap.size<=wr.heap.size:=HS.out.kept.size;have KN:wr.heap[w.heap.size]?=some (.cells #[.int .i64 a.at_,.string a.pred,.slice ad a.af.length ac,.slice (some ⟨N,0,none⟩) body.length bc] 222 (0,0)):=HS.out.kept.heap HJR.out (λhc=>by have:=sq HH.out hc;omega);have O:wr.heap[w.heap.size+1]?=some (.cells (cY n X Y) 369 (0,0)):=HS.out.kept.heap HJX.out (λhc=>by have:=sq HH.out hc;omega);by_cases aL:k<cs.length
   ·obtain⟨hq,hck⟩:=HCS.out k aL;obtain⟨p,x,y,U,hfp⟩:=Lz (HH.out.three _ (IN hq));have aiF:Hid (cs[k]=(p,[x,y,U])):=by rw[hck,hfp];rfl
    obtain⟨c0,c1,c2,c3⟩:=Lc HH.out.three hq hfp;have hmv:∀j u,j<s.found.length*4->(cG s.found)[j]?=some u->wr.cell? ⟨Z,j,none⟩=some u:=by
     intro j u hj hu;rw[(HS.out.cells Z rfl).2 j hj,ZO.out.cell (by exact MJ)];exact W8.out j u hu
    have f0:wr.cell? ⟨Z,E*4+k*4,none⟩=some (.string p):=hmv _ _ (by omega) (by rw[show E*4+k*4=(E+k)*4 by omega];exact c0);have f1:wr.cell? ⟨Z,E*4+k*4+1,none⟩=some (.string x):=hmv _ _ (by omega) (by rw[show E*4+k*4+1=(E+k)*4+1 by omega];exact c1);have f2:wr.cell? ⟨Z,E*4+k*4+2,none⟩=some (.string y):=hmv _ _ (by omega) (by rw[show E*4+k*4+2=(E+k)*4+2 by omega];exact c2);have f3:wr.cell? ⟨Z,E*4+k*4+3,none⟩=some (.string U):=hmv _ _ (by omega) (by rw[show E*4+k*4+3=(E+k)*4+3 by omega];exact c3);have apV:Z<wr.heap.size:=by have:=ZO.out.size;omega
    have Lo:xB wr a ad ac (some ⟨N,0,none⟩) bc body:=(mB.out.below ZO.out).search H0.out HS.out;have Av:=aj Lo;obtain⟨bg',eb,aps,anQ,KD⟩:=aA Lo.mr.2.1 (by show 0<body.length;omega);simp only[AT,aco,aex]at eb;subst eb;obtain⟨a0,a1,a2⟩:=bR body i hi;rw[hma]at a0 a1 a2;rw[pW]at a2;have m0:=KD _ _ a0;have m1:=KD _ _ a1;have m2:=KD _ _ a2;have ach:MA.ok wr (A.1,.slice xd A.1.af.length xc):=by
     have:=Lo.mr.2.2 A gy;rw[<-pW];exact this
    have r0:=mA KN;have r1:=ow KN;have r2:=rq KN;have r3:=E4 KN;have q0:=mA O;have q1:=ow O;have q2:=rq O;have q3:=E4 O;have q4:=Zo O;have q5:=Zn O;have q6:=Y5 O;have q7:=Zj O;have q8:=YM O;have q9:=ZK O;have q10:=Lj O;have q11:=Ls O;have q12:=Mz O;have v1:w.heap.size<wr.heap.size:=by omega
    have v2:w.heap.size+1<wr.heap.size:=by omega
    obtain⟨w1,dA⟩:∃w1,w1=wr.alloc (.cells #[.string p,.string x,.string y,.string U] 325):=⟨_,rfl⟩;have F:Below wr.heap.size wr w1:=by rw[dA];exact aM
    have iS:w1.heap.size=wr.heap.size+1:=by rw[dA];simp
    have Vx:w1.heap[wr.heap.size]?=some (.cells #[.string p,.string x,.string y,.string U] 325 (0,0)):=by rw[dA];exact By wr _
    have acW:Hid (∀W:World,Below w1.heap.size w1 W->Calls prog 266 #[.agg (cY n X Y),.agg #[.int .i64 A.1.at_,.string A.1.pred,.slice xd A.1.af.length xc],.agg #[.string p,.string x,.string y,.string U]] W λe w'=>∃n1 I H ok,e=.returned (.tuple #[.agg (cY n1 I H),.bool ok])/\Below W.heap.size W w'/\Below w1.heap.size w1 w'/\
     Hid ((ok=false/\En.bO A.1 (p,[x,y,U]) b=none)\/(ok=true/\∃b1,En.bO A.1 (p,[x,y,U]) b=some b1/\D1 b1 n1 I H/\n1<=n+A.1.af.length))):=by
     intro W hW;have Hm:Below wr.heap.size wr W:=F.trans (hW.mono F.size);refine(W6 W b n X Y hb A.1 xd xc p x y U (ae ach Hm) hao (by have:=hao.three;omega)).mono ?_;rintro e w' ⟨n1,I,H,ok,h1,h2,h3⟩;exact⟨n1,I,H,ok,h1,h2,hW.trans (h2.mono hW.size),h3⟩
    clear hmv c0 c1 c2 c3 a0 a1 a2 KD Lo ach KN O hck hfp s2 MJ;have D3:∀n X Y,cY n X Y=#[.int .i64 n,.string (X 0),.string (Y 0),.string (X 1),.string (Y 1),.string (X 2),.string (Y 2),.string (X 3),.string (Y 3),.string (X 4),.string (Y 4),.string (X 5),.string (Y 5)]:=λ_ _ _=>rfl;simp only[D3]at acW;clear D3
    go_upto_region 11 with fail
    rw[<-dA];have k0:=wj F r3;have k1:=wj F q0;have k2:=wj F q1;have k3:=wj F q2;have k4:=wj F q3;have k5:=wj F q4;have k6:=wj F q5;have k7:=wj F q6;have k8:=wj F q7;have k9:=wj F q8;have k10:=wj F q9;have k11:=wj F q10;have k12:=wj F q11;have k13:=wj F q12;have k14:=wj F m0;have k15:=wj F m1;have k16:=wj F m2;have k17:=mA Vx;have k18:=ow Vx;have k19:=rq Vx;have Z3:=E4 Vx;have v3:wr.heap.size<w1.heap.size:=by omega
    have v4:w.heap.size<w1.heap.size:=by omega
    have v5:w.heap.size+1<w1.heap.size:=by omega
    have v6:N<w1.heap.size:=by omega
    have Hc:=aj iS;clear iS dA r0 r1 r2 r3 q0 q1 q2 q3 q4 q5 q6 q7 q8 q9 q10 q11 q12 m0 m1 m2 f0 f1 f2 f3 v1 v2 Vx
    go_cut [16,17,45]from 45 to 69 (λnv ov kv wx=>kv=.int .i64 k/\∃g n1 I H ok,nv=.pointer (some ⟨g,0,none⟩)/\ov=.bool ok/\wx.heap[g]?=some (.cells (cY n1 I H) 369 (0,0))/\Below w1.heap.size w1 wx/\Hid ((ok=false/\En.bO A.1 (p,[x,y,U]) b=none)\/(ok=true/\∃b1,En.bO A.1 (p,[x,y,U]) b=some b1/\D1 b1 n1 I H/\n1<=n+A.1.af.length)))
    ·
     have nn0:=acN w1 _ k0;have nn1:=acN w1 _ k1;have nn2:=acN w1 _ k2;have nn3:=acN w1 _ k3;have nn4:=acN w1 _ k4;have nn5:=acN w1 _ k5;have nn6:=acN w1 _ k6;have nn7:=acN w1 _ k7;have nn8:=acN w1 _ k8;have nn9:=acN w1 _ k9;have aoE:=acN w1 _ k10;have aqg:=acN w1 _ k11;have ao5:=acN w1 _ k12;have ao2:=acN w1 _ k13;have apL:=acN w1 _ k14;have ap7:=acN w1 _ k15;have aoP:=acN w1 _ k16;have arS:=acN w1 _ k17;have aqu:=acN w1 _ k18;have anZ:=acN w1 _ k19;have aot:=acN w1 _ Z3
     go_region_held3 (λw'=>w'.cell? ⟨w.heap.size,3,none⟩=some (.slice (some ⟨N,0,none⟩) body.length bc)/\w'.cell? ⟨w.heap.size+1,0,none⟩=some (.int .i64 n)/\w'.cell? ⟨w.heap.size+1,1,none⟩=some (.string (X 0))/\w'.cell? ⟨w.heap.size+1,2,none⟩=some (.string (Y 0))/\w'.cell? ⟨w.heap.size+1,3,none⟩=some (.string (X 1))/\w'.cell? ⟨w.heap.size+1,4,none⟩=some (.string (Y 1))/\w'.cell? ⟨w.heap.size+1,5,none⟩=some (.string (X 2))/\w'.cell? ⟨w.heap.size+1,6,none⟩=some (.string (Y 2))/\w'.cell? ⟨w.heap.size+1,7,none⟩=some (.string (X 3))/\w'.cell? ⟨w.heap.size+1,8,none⟩=some (.string (Y 3))/\w'.cell? ⟨w.heap.size+1,9,none⟩=some (.string (X 4))/\w'.cell? ⟨w.heap.size+1,10,none⟩=some (.string (Y 4))/\w'.cell? ⟨w.heap.size+1,11,none⟩=some (.string (X 5))/\w'.cell? ⟨w.heap.size+1,12,none⟩=some (.string (Y 5))/\w'.cell? ⟨N,i*3,none⟩=some (.int .i64 A.1.at_)/\w'.cell? ⟨N,i*3+1,none⟩=some (.string A.1.pred)/\w'.cell? ⟨N,i*3+2,none⟩=some (.slice xd A.1.af.length xc)/\w'.cell? ⟨wr.heap.size,0,none⟩=some (.string p)/\w'.cell? ⟨wr.heap.size,1,none⟩=some (.string x)/\w'.cell? ⟨wr.heap.size,2,none⟩=some (.string y)/\w'.cell? ⟨wr.heap.size,3,none⟩=some (.string U)) (go_keep) (first | (go_at_call 266;refine(acW.out _ (by first | exact(aaj _ _).drew | exact(((aaj _ _).drew).alloc (OF _) _) | exact(aM.drew))).mono ?_;rintro e t ⟨n1,I,H,ok,rfl,fR,D,VY⟩;have y0:t.cell? ⟨w.heap.size,3,none⟩=some (.slice (some ⟨N,0,none⟩) body.length bc):=(by rw[D.cell (abg w1 _ k0)];exact k0);have y1:t.cell? ⟨w.heap.size+1,0,none⟩=some (.int .i64 n):=(by rw[D.cell (abg w1 _ k1)];exact k1);have y2:t.cell? ⟨w.heap.size+1,1,none⟩=some (.string (X 0)):=(by rw[D.cell (abg w1 _ k2)];exact k2);have y3:t.cell? ⟨w.heap.size+1,2,none⟩=some (.string (Y 0)):=(by rw[D.cell (abg w1 _ k3)];exact k3);have y4:t.cell? ⟨w.heap.size+1,3,none⟩=some (.string (X 1)):=(by rw[D.cell (abg w1 _ k4)];exact k4);have y5:t.cell? ⟨w.heap.size+1,4,none⟩=some (.string (Y 1)):=(by rw[D.cell (abg w1 _ k5)];exact k5);have y6:t.cell? ⟨w.heap.size+1,5,none⟩=some (.string (X 2)):=(by rw[D.cell (abg w1 _ k6)];exact k6);have y7:t.cell? ⟨w.heap.size+1,6,none⟩=some (.string (Y 2)):=(by rw[D.cell (abg w1 _ k7)];exact k7);have y8:t.cell? ⟨w.heap.size+1,7,none⟩=some (.string (X 3)):=(by rw[D.cell (abg w1 _ k8)];exact k8);have y9:t.cell? ⟨w.heap.size+1,8,none⟩=some (.string (Y 3)):=(by rw[D.cell (abg w1 _ k9)];exact k9);have y10:t.cell? ⟨w.heap.size+1,9,none⟩=some (.string (X 4)):=(by rw[D.cell (abg w1 _ k10)];exact k10);have y11:t.cell? ⟨w.heap.size+1,10,none⟩=some (.string (Y 4)):=(by rw[D.cell (abg w1 _ k11)];exact k11);have y12:t.cell? ⟨w.heap.size+1,11,none⟩=some (.string (X 5)):=(by rw[D.cell (abg w1 _ k12)];exact k12);have y13:t.cell? ⟨w.heap.size+1,12,none⟩=some (.string (Y 5)):=(by rw[D.cell (abg w1 _ k13)];exact k13);have y14:t.cell? ⟨N,i*3,none⟩=some (.int .i64 A.1.at_):=(by rw[D.cell (abg w1 _ k14)];exact k14);have y15:t.cell? ⟨N,i*3+1,none⟩=some (.string A.1.pred):=(by rw[D.cell (abg w1 _ k15)];exact k15);have y16:t.cell? ⟨N,i*3+2,none⟩=some (.slice xd A.1.af.length xc):=(by rw[D.cell (abg w1 _ k16)];exact k16);have y17:t.cell? ⟨wr.heap.size,0,none⟩=some (.string p):=(by rw[D.cell (abg w1 _ k17)];exact k17);have y18:t.cell? ⟨wr.heap.size,1,none⟩=some (.string x):=(by rw[D.cell (abg w1 _ k18)];exact k18);have y19:t.cell? ⟨wr.heap.size,2,none⟩=some (.string y):=(by rw[D.cell (abg w1 _ k19)];exact k19);have y20:t.cell? ⟨wr.heap.size,3,none⟩=some (.string U):=(by rw[D.cell (abg w1 _ Z3)];exact Z3);(try (have J:t.heap[w1.heap.size]?=some (.cells (cY 0 (λ_=>⟨#[]⟩) (λ_=>⟨#[]⟩)) 369 (0,0)):=(by rw[fR.block _ (by simp)];first | exact By w1 _ | exact By w1.drew _);have z0:t.cell? ⟨w1.heap.size,0,none⟩=some (.int .i64 0):=(by rw[aaB _ _ _ _ _ _ J];rfl);have z1:t.cell? ⟨w1.heap.size,1,none⟩=some (.string ⟨#[]⟩):=(by rw[aaB _ _ _ _ _ _ J];rfl);have z2:t.cell? ⟨w1.heap.size,2,none⟩=some (.string ⟨#[]⟩):=(by rw[aaB _ _ _ _ _ _ J];rfl);have z3:t.cell? ⟨w1.heap.size,3,none⟩=some (.string ⟨#[]⟩):=(by rw[aaB _ _ _ _ _ _ J];rfl);have z4:t.cell? ⟨w1.heap.size,4,none⟩=some (.string ⟨#[]⟩):=(by rw[aaB _ _ _ _ _ _ J];rfl);have z5:t.cell? ⟨w1.heap.size,5,none⟩=some (.string ⟨#[]⟩):=(by rw[aaB _ _ _ _ _ _ J];rfl);have z6:t.cell? ⟨w1.heap.size,6,none⟩=some (.string ⟨#[]⟩):=(by rw[aaB _ _ _ _ _ _ J];rfl);have z7:t.cell? ⟨w1.heap.size,7,none⟩=some (.string ⟨#[]⟩):=(by rw[aaB _ _ _ _ _ _ J];rfl);have z8:t.cell? ⟨w1.heap.size,8,none⟩=some (.string ⟨#[]⟩):=(by rw[aaB _ _ _ _ _ _ J];rfl);have z9:t.cell? ⟨w1.heap.size,9,none⟩=some (.string ⟨#[]⟩):=(by rw[aaB _ _ _ _ _ _ J];rfl);have z10:t.cell? ⟨w1.heap.size,10,none⟩=some (.string ⟨#[]⟩):=(by rw[aaB _ _ _ _ _ _ J];rfl);have z11:t.cell? ⟨w1.heap.size,11,none⟩=some (.string ⟨#[]⟩):=(by rw[aaB _ _ _ _ _ _ J];rfl);have z12:t.cell? ⟨w1.heap.size,12,none⟩=some (.string ⟨#[]⟩):=(by rw[aaB _ _ _ _ _ _ J];rfl);have zf:∀o,t.frozen? ⟨w1.heap.size,o,none⟩=false:=(λo=>by simp[World.frozen?,J]);have zl:w1.heap.size<t.heap.size:=(lt_of_heap J);have HZ:=aj J;clear J))))
     ·go_wp2_with fail
      go_meet
      case rel=>
       refine⟨rfl,t.heap.size,n1,I,H,ok,rfl,rfl, ?_,D.alloc D.size _,VY⟩;exact By t _
     ·go_wp2_with fail
      go_meet
      case rel=>
       obtain⟨hu,Se⟩:=tP (n:=n1) (X:=I) (Y:=H) HZ.out;refine⟨rfl,w1.heap.size,n1,I,H,ok,rfl,rfl, ?_, ?_,VY⟩
       ·exact hu
       ·exact Se.aQ D D.size (λq hq=>by simp at hq;omega)
    ·
     obtain⟨rfl,g,n1,I,H,ok,rfl,rfl,M,pK,eO⟩:=hcut;have yA:Below wr.heap.size wr wc:=F.trans (pK.mono F.size);have N8:=aj yA;have aon:=yA.size;have hGk:Hid (G cs[k]=En.Ol P z turn a i A.1 ((body.drop (i+1)).map Prod.fst) b (p,[x,y,U])):=by rw[aiF.out,<-HG.out];rfl
     have UM:=MU G cs aL;have jX:=aj UM;clear UM pK yA;cases ok with
     | false=>
      have fP:Hid (G cs[k]=[]):=by
       rcases eO.out with⟨_,e⟩ | ⟨e,_⟩
       ·rw[hGk.out];unfold En.Ol;rw[e];rfl
       ·cases e
      have uS:Hid (kj w0 wc sb mb rv (some ⟨Z,0,none⟩) fc T s (En.holds s ((cs.take (k+1)).flatMap G))):=by
       rw[jX.out,fP.out,aby];exact HS.out.post N8.out
      clear M eO k0 k1 k2 k3 k4 k5 k6 k7 k8 k9 k10 k11 k12 k13 k14 k15 k16 k17 k18 k19 Z3
      go_wp2_with fail
      go_roundw
      ·exact⟨k+1,by omega,by go_num,uS.out⟩
      ·simp[intOf];omega
     | true=>
      obtain⟨b1,aV,adP,FX⟩:∃b1,En.bO A.1 (p,[x,y,U]) b=some b1/\D1 b1 n1 I H/\n1<=n+A.1.af.length:=by
       rcases eO.out with⟨e,_⟩ | ⟨_,e⟩
       ·cases e
       ·exact e
      have mm:Hid (G cs[k]=En.jn P z turn a (i+1) ((body.drop (i+1)).map Prod.fst) b1):=by
       rw[hGk.out];unfold En.Ol;rw[aV];rfl
      obtain⟨Jn,JC,T1,Wo,mF,AF⟩:=HS.out.on;have qH:=En.mP ((cs.take k).flatMap G) s;have acD:=ng G cs (k+1);rw[jX.out,If]at acD;have Zb:=HHF.out;have I4:=HHC.out;have JU:=IH wc Jn JC T1 (En.holds s ((cs.take k).flatMap G)) b1 n1 I H (Wo.below N8.out) (Av.out.below N8.out) adP (by have:=hao.three;omega) (by rw[kE mF];exact hp) (by omega) (by rw[En.rL _ _ (by omega)];exact HPZ.out) (by rw[<-mm.out];omega) (λf=>by have h1:=En.iz ((cs.take k).flatMap G) s f;have h2:=I4 f;rw[<-mm.out];omega);have CH:Hid (Calls prog 232 #[.pointer (some ⟨sb,0,none⟩),.agg #[.int .i64 a.at_,.string a.pred,.slice ad a.af.length ac,.slice (some ⟨N,0,none⟩) body.length bc],.int .i64 ((i:Int)+1),.int .i64 turn,.int .i64 B,.agg #[.int .i64 n1,.string (I 0),.string (H 0),.string (I 1),.string (H 1),.string (I 2),.string (H 2),.string (I 3),.string (H 3),.string (I 4),.string (H 4),.string (I 5),.string (H 5)]] wc λe w'=>e=.returned (.tuple #[])/\kj w0 w' sb mb rv (some ⟨Z,0,none⟩) fc T s (En.holds s ((cs.take (k+1)).flatMap G))):=by
       have Ke:((i+1:Nat):Int)=(i:Int)+1:=by omega
       rw[Ke]at JU;refine JU.mono ?_;rintro e w' ⟨rfl,jR⟩;refine⟨rfl, ?_⟩;rw[jX.out,En.kt,mm.out];exact kj.trans H0.out (Wo.below N8.out) mF AF (HS.out.kept.below N8.out) (HS.out.post N8.out).cells qH.1 jR
      have MP:wc.heap[w.heap.size]?=some (.cells #[.int .i64 a.at_,.string a.pred,.slice ad a.af.length ac,.slice (some ⟨N,0,none⟩) body.length bc] 222 (0,0)):=(HS.out.post N8.out).kept.heap HJR.out (λhc=>by have:=sq HH.out hc;omega);have r0:=mA MP;have r1:=ow MP;have r2:=rq MP;have r3:=E4 MP;have q0:=mA M;have q1:=ow M;have q2:=rq M;have q3:=E4 M;have q4:=Zo M;have q5:=Zn M;have q6:=Y5 M;have q7:=Zj M;have q8:=YM M;have q9:=ZK M;have q10:=Lj M;have q11:=Ls M;have q12:=Mz M;have u1:w.heap.size<wc.heap.size:=lt_of_heap MP;have u2:g<wc.heap.size:=lt_of_heap M;clear M eO MP JU Wo mF AF qH acD Zb I4 aV adP FX k0 k1 k2 k3 k4 k5 k6 k7 k8 k9 k10 k11 k12 k13 k14 k15 k16 k17 k18 k19 Z3
      go_wp2_with (go_at_call 232;refine CH.out.mono ?_;rintro e w6 ⟨rfl,vB⟩;have Yz:=aj vB;clear vB)
      go_roundw
      ·exact⟨k+1,by omega,by go_num,Yz.out⟩
      ·simp[intOf];omega
   ·have U5:k=cs.length:=by omega
    have qo:Hid (kj w wr sb mb rv (some ⟨Z,0,none⟩) fc T s (En.holds s (cs.flatMap G))):=by
     have:=HS.out.pre ZO.out HH.out;rw[U5,abS]at this;exact this
    clear U5 KN O
    go_wp2_with fail
    go_end0;exact⟨rfl,qo.out⟩
end
