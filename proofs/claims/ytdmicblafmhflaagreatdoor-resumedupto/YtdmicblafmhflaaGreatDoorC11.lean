/- What the search finds is what axiomkeep's least works out, and as often. No program here. -/
import Derived.Test.YtdmicblafmhflaaGreatDoorC09
import Derived.Test.YtdmicblafmhflaaGreatDoorC10
set_option linter.unusedSimpArgs false
set_option linter.unusedVariables false
namespace Go.Proofs.YtdmicblafmhflaaGreatDoor
namespace En
open Ax (bZ cp iH dM gY)
def b0:bC:=⟨(0,[0]),[(0,[0]),(1,[0,0])]⟩
def b1:bC:=⟨(0,[0]),[(0,[0]),(2,[0,0])]⟩
theorem RU:sV b0 where
 head:=⟨⟨by decide,rfl⟩,by decide⟩
 body:=by
  intro b hb
  simp[b0]at hb
  rcases hb with rfl | rfl
  · exact⟨⟨by decide,rfl⟩,by decide⟩
  · exact⟨⟨by decide,rfl⟩,by decide⟩
 two:=by decide
 safe:=fun n hn _=>⟨(0,[0]),by simp[b0],hn⟩
theorem SA:sV b1 where
 head:=⟨⟨by decide,rfl⟩,by decide⟩
 body:=by
  intro b hb
  simp[b1]at hb
  rcases hb with rfl | rfl
  · exact⟨⟨by decide,rfl⟩,by decide⟩
  · exact⟨⟨by decide,rfl⟩,by decide⟩
 two:=by decide
 safe:=fun n hn _=>⟨(0,[0]),by simp[b1],hn⟩
def eR(R:List bC):List bC:=b0::b1::R
def sR(R:List bC):List (eD b7):=(eR R).map fun r=>cS (cO r)
theorem Az{R:List bC}(h:∀r,r∈R→sV r):∀r,r∈eR R→sV r:=by
 intro r hr
 rcases List.mem_cons.1 hr with rfl | hr
 · exact RU
 · rcases List.mem_cons.1 hr with rfl | hr
   · exact SA
   · exact h r hr
theorem wE(r:bC):(cS (cO r)).k=r.body.length:=by simp[cS,cO]
theorem Bg{R:List bC}(h:∀r,r∈R→sV r):∀r,r∈sR R→r.k≤2:=by
 intro r hr
 obtain⟨q,hq,rfl⟩:=List.mem_map.1 hr
 rw[wE]
 exact(Az h q hq).two
theorem Bj{R:List bC}{r:bC}(hr:sV r){H:Nat→Bool}{i:Nat}(hi:i∈cB r H):i<36:=by
 obtain⟨n,hn,rfl⟩:=List.mem_map.1 hi
 unfold BX at hn
 exact mP (fun j _=>gD (iT.1 (List.mem_filter.1 hn).1).1 j) hr.head
theorem rI:∀(R:List bC),(∀r,r∈R→sV r)→∀(H:Nat→Bool) (i:Nat),36≤i→H i=false→cM R H i=false
 | [],_,_,_,_,h=>h
 | r::R,hR,H,i,hi,h=>by
  show cM R (dh H (cB r H)) i=false
  refine rI R (fun q hq=>hR q (by simp[hq])) _ i hi ?_
  simp only[dh,h,Bool.false_or,decide_eq_false_iff_not]
  intro hc
  have:=Bj (R:=R) (hR r (by simp)) hc
  omega
def al(R:List bC)(G:Nat→Bool):Nat→Bool:=rounds R 37 G
theorem ru{R:List bC}(hR:∀r,r∈R→sV r){G:Nat→Bool}(hG:∀i,36≤i→G i=false):nw R (fun i=>al R G i=true):=by
 intro r hr n hn hb
 have hs:=uo (rI R hR) 37 G hG (by omega)
 show rounds R 37 G _=true
 rw[←hs]
 refine qT R _ r hr _ (List.mem_map.2 ⟨n, ?_,rfl⟩)
 unfold BX
 rw[List.mem_filter,List.all_eq_true]
 exact⟨hn,hb⟩
theorem vQ{R:List bC}(hR:∀r,r∈R→sV r){G:Nat→Bool}(hG:∀i,36≤i→G i=false):nw (eR R) (fun i=>al R G i=true):=by
 intro r hr n hn hb
 rcases List.mem_cons.1 hr with rfl | hr
 · exact hb (0,[0]) (by simp[b0])
 · rcases List.mem_cons.1 hr with rfl | hr
   · exact hb (0,[0]) (by simp[b1])
   · exact ru hR hG r hr n hn hb
def gF(G:Nat→Bool)(f:b7):Prop:=∃i,i<36∧G i=true∧f=uF i
def XF(X:Nat→Prop)(f:b7):Prop:=∃i,i<36∧X i∧f=uF i
theorem sX{E:List bC}(hE:∀r,r∈E→sV r){X:Nat→Prop}(hX:nw E X):AO (E.map fun r=>cS (cO r)) (XF X):=by
 intro r' zm fs hl LF h hi
 obtain⟨r,hr,rfl⟩:=List.mem_map.1 zm
 have dj:=hE r hr
 have aci:∀f,f∈fs→Can f:=by
  intro f hf
  obtain⟨i,hi,_,rfl⟩:=LF f hf
  exact NF hi
 obtain⟨n,hn,e⟩:=NJ dj aci hi
 have U0:=(iT.1 hn).1
 have hv:∀j,j<3→gZ n j<4:=fun j _=>gD U0 j
 have hh:h=subst (gZ n) r.head:=by
  have h1:gW (cO r) fs=some h:=hi
  rw[←e,rk dj U0]at h1
  exact(Option.some.inj h1).symm
 refine⟨qM (gZ n) r.head,mP hv dj.head, ?_,by rw[hh,tL hv dj.head]⟩
 apply hX r hr n hn
 intro b hb
 have hm:subst (gZ n) b∈fs:=by rw[←e];exact List.mem_map.2 ⟨b,hb,rfl⟩
 obtain⟨i,UI,hXi,ei⟩:=LF _ hm
 rw[←tL hv (dj.body b hb)]at ei
 rw[qq (mP hv (dj.body b hb)) UI ei]
 exact hXi
theorem tQ{R:List bC}(hR:∀r,r∈R→sV r){G:Nat→Bool}{s:dH b7}{n:Nat}(hs:Inv (sR R) (gF G) s n):∀f,f∈s.found→Can f:=by
 intro f hf
 have hX:nw (eR R) (fun i=>i<36):=fun r hr n hn _=>mP (fun j _=>gD (iT.1 hn).1 j) (Az hR r hr).head
 obtain⟨i,hi,_,rfl⟩:=hs.least (XF fun i=>i<36) (sX (Az hR) hX) (fun f ⟨i,hi,_,e⟩=>⟨i,hi,hi,e⟩) f hf
 exact NF hi
theorem pf{R:List bC}(hR:∀r,r∈R→sV r){G:Nat→Bool}(hG:∀i,36≤i→G i=false){s:dH b7}(hs:Inv (sR R) (gF G) s s.found.length){i:Nat}(hi:i<36):uF i∈s.found↔al R G i=true:=by
 constructor
 · intro hm
   obtain⟨j,hj,hX,e⟩:=hs.least (XF fun i=>al R G i=true) (sX (Az hR) (vQ hR hG)) (fun f ⟨i,hi,hg,e⟩=>⟨i,hi,tH 37 G i hg,e⟩) _ hm
   rw[qq hi hj e]
   exact hX
 · intro hl
   refine rE (R:=R) (X:=fun i=>i<36→uF i∈s.found) ?_ 37 G ?_ i hl hi
   · intro r hr n hn hb _
     have dj:=hR r hr
     have U0:=(iT.1 hn).1
     have hv:∀j,j<3→gZ n j<4:=fun j _=>gD U0 j
     have fy:cS (cO r)∈sR R:=List.mem_map.2 ⟨r,by simp[eR,hr],rfl⟩
     rw[tL hv dj.head]
     refine hs.done _ fy (GO r n) ?_ _ (rk dj U0)
     rw[List.take_length,xV (Bg hR _ fy),wE]
     refine⟨by simp[GO], ?_⟩
     intro f hf
     obtain⟨b,jR,rfl⟩:=List.mem_map.1 hf
     rw[←tL hv (dj.body b jR)]
     exact hb b jR (mP hv (dj.body b jR))
   · intro j hj yW
     exact hs.given _ ⟨j,yW,hj,rfl⟩
def eA(l:List Nat)(i:Nat):Nat:=l.count i
theorem wD{α:Type}{f:α→Nat}:∀(l:List α),(∀x,x∈l→f x<36)→∀{i:Nat},i<36→iF (l.map fun x=>uF (f x)) (uF i)=eA (l.map f) i
 | [],_,_,_=>rfl
 | x::l,h,i,hi=>by
  have ih:=wD l (fun y hy=>h y (by simp[hy])) hi
  rw[List.map_cons,List.map_cons,CT,ih]
  unfold eA
  rw[List.count_cons]
  by_cases e:f x=i
  · subst e;simp
  · have e2:¬uF (f x)=uF i:=fun hc=>e (qq (h x (by simp)) hi hc)
    simp[e,e2]
theorem Rg{R:List bC}(hR:∀r,r∈R→sV r){G:Nat→Bool}(hG:∀i,36≤i→G i=false){s:dH b7}(hs:Inv (sR R) (gF G) s s.found.length){r:bC}(hr:sV r):Pv r s.found=BX r (al R G):=by
 unfold Pv BX
 apply List.filter_congr
 intro n hn
 have U0:=(iT.1 hn).1
 have hv:∀j,j<3→gZ n j<4:=fun j _=>gD U0 j
 unfold GO
 rw[List.all_map]
 apply Bool.eq_iff_iff.2
 rw[List.all_eq_true,List.all_eq_true]
 have key:∀b,b∈r.body→(hasB s.found (subst (gZ n) b)=true↔al R G (qM (gZ n) b)=true):=by
  intro b hb
  rw[xj,←tL hv (hr.body b hb)]
  exact pf hR hG hs (mP hv (hr.body b hb))
 constructor
 · intro h b hb
   exact(key b hb).1 (h b hb)
 · intro h b hb
   exact(key b hb).2 (h b hb)
theorem tq{R:List bC}(hR:∀r,r∈R→sV r){G:Nat→Bool}(hG:∀i,36≤i→G i=false){s:dH b7}(hs:Inv (sR R) (gF G) s s.found.length){r:bC}(hr:sV r){i:Nat}(hi:i<36):
 jX (cS (cO r)) (iK (cS (cO r)).k s.found) (uF i)=eA (cB r (al R G)) i:=by
 rw[wE,Tx hr hs.nodup (tQ hR hs),Rg hR hG hs hr]
 have e:((BX r (al R G)).map fun n=>subst (gZ n) r.head)=(BX r (al R G)).map fun n=>uF (qM (gZ n) r.head):=by
  apply List.map_congr_left
  intro n hn
  unfold BX at hn
  exact(tL (fun j _=>gD (iT.1 (List.mem_filter.1 hn).1).1 j) hr.head).symm
 rw[e]
 exact wD _ (fun n hn=>by
  unfold BX at hn
  exact mP (fun j _=>gD (iT.1 (List.mem_filter.1 hn).1).1 j) hr.head) hi
theorem D8{R:List bC}(hR:∀r,r∈R→sV r){G:Nat→Bool}(hG:∀i,36≤i→G i=false){s:dH b7}(hs:Inv (sR R) (gF G) s s.found.length){i:Nat}(hi:i<36):
 s.count (uF i)=eA (cB b0 (al R G)) i+(eA (cB b1 (al R G)) i+(R.map fun r=>eA (cB r (al R G)) i).sum):=by
 rw[hs.counts,List.take_length]
 unfold total sR eR
 simp only[List.map_cons,List.sum_cons,List.map_map]
 rw[tq hR hG hs RU hi,tq hR hG hs SA hi]
 congr 3
 apply List.map_congr_left
 intro r hr
 exact tq hR hG hs (hR r hr) hi
theorem Zc:vs b0=[0,1,2,3]:=by decide
theorem Yu:vs b1=[0,1,2,3]:=by decide
theorem four{n:Nat}(h:n∈[0,1,2,3]):n=0∨n=1∨n=2∨n=3:=by simpa using h
theorem Mf(H:Nat→Bool):cB b0 H=[0,1,2,3].filter fun x=>H x&&H (4+5*x):=by
 unfold cB BX
 rw[Zc]
 have e1:([0,1,2,3].filter fun n=>b0.body.all fun b=>H (qM (gZ n) b))=[0,1,2,3].filter fun x=>H x&&H (4+5*x):=by
  apply List.filter_congr
  intro n hn
  rcases four hn with rfl | rfl | rfl | rfl<;>simp[b0,qM,lR,mM,gZ]
 rw[e1]
 have e2:∀n,n∈[0,1,2,3].filter (fun x=>H x&&H (4+5*x))→qM (gZ n) b0.head=id n:=by
  intro n hn
  rcases four (List.mem_filter.1 hn).1 with rfl | rfl | rfl | rfl<;>rfl
 rw[List.map_congr_left e2,List.map_id]
theorem OK(H:Nat→Bool):cB b1 H=[0,1,2,3].filter fun x=>H x&&H (20+5*x):=by
 unfold cB BX
 rw[Yu]
 have e1:([0,1,2,3].filter fun n=>b1.body.all fun b=>H (qM (gZ n) b))=[0,1,2,3].filter fun x=>H x&&H (20+5*x):=by
  apply List.filter_congr
  intro n hn
  rcases four hn with rfl | rfl | rfl | rfl<;>simp[b1,qM,lR,mM,gZ]
 rw[e1]
 have e2:∀n,n∈[0,1,2,3].filter (fun x=>H x&&H (20+5*x))→qM (gZ n) b1.head=id n:=by
  intro n hn
  rcases four (List.mem_filter.1 hn).1 with rfl | rfl | rfl | rfl<;>rfl
 rw[List.map_congr_left e2,List.map_id]
theorem vY(p:Nat→Bool)(i:Nat):eA ([0,1,2,3].filter p) i=if i<4∧p i=true then 1 else 0:=by
 unfold eA
 by_cases hp:p i=true
 · rw[List.count_filter hp]
   by_cases hi:i<4
   · rw[if_pos ⟨hi,hp⟩]
     have:i=0∨i=1∨i=2∨i=3:=by omega
     rcases this with rfl | rfl | rfl | rfl<;>rfl
   · rw[if_neg (fun h=>hi h.1)]
     rw[List.count_eq_zero]
     simp
     omega
 · rw[if_neg (fun h=>hp h.2),List.count_eq_zero]
   intro hc
   exact hp (List.mem_filter.1 hc).2
theorem rQ{R:List bC}(hR:∀r,r∈R→sV r){G:Nat→Bool}(hG:∀i,36≤i→G i=false){s:dH b7}(hs:Inv (sR R) (gF G) s s.found.length){i:Nat}(hi:i<36):
 s.count (uF i)=(if i<4∧(al R G i&&al R G (4+5*i))=true then 1 else 0)+((if i<4∧(al R G i&&al R G (20+5*i))=true then 1 else 0)+(R.map fun r=>eA (cB r (al R G)) i).sum):=by
 rw[D8 hR hG hs hi,Mf,OK,vY,vY]
theorem DL{R:List bC}(hR:∀r,r∈R→sV r){G:Nat→Bool}{s:dH b7}(hs:Inv (sR R) (gF G) s 0)(fuel:Nat)(hf:200<fuel):∃s',search (sR R) 200 fuel 0 s=some s':=by
 have hX:nw (eR R) (fun i=>i<36):=fun r hr n hn _=>mP (fun j _=>gD (iT.1 hn).1 j) (Az hR r hr).head
 have hU:∀f,f∈(List.range 36).map uF↔XF (fun i=>i<36) f:=by
  intro f
  rw[List.mem_map]
  constructor
  · rintro⟨i,hi,rfl⟩
    exact⟨i,by simpa using hi,by simpa using hi,rfl⟩
  · rintro⟨i,hi,_,rfl⟩
    exact⟨i,by simpa using hi,rfl⟩
 have hc:AO (sR R) (· ∈(List.range 36).map uF):=by
  intro r hr fs hl LF h hi
  exact(hU h).2 (sX (Az hR) hX r hr fs hl (fun f hf=>(hU f).1 (LF f hf)) h hi)
 exact uf (Bg hR) ((List.range 36).map uF) (by simp) hc (fun f ⟨i,hi,_,e⟩=>(hU f).2 ⟨i,hi,hi,e⟩) fuel 0 s hs (Nat.zero_le _) (by omega)
end En
/- The rules that the program reads out of axiomkeep's text are axiomkeep's rules. No program here. -/
namespace En
open Ax (bZ cp iH dM gY aA aT a8 bG di aC gR Ls jM lj Cm)
def pI(r:aA):bC:=⟨(aT r.head.pred 3,di r),(bG r).map fun b=>(aT b.pred 3,a8 b)⟩
def af(l:List aA):List bC:=(l.take 6).map pI
theorem tW(a:Ax.eo):∀n,n∈a8 a→n<7:=by
 intro n hn
 unfold a8 at hn
 split at hn
 · simp at hn;subst hn;exact Ax.eJ _ 7 (by decide)
 · simp at hn;rcases hn with rfl | rfl<;>exact Ax.eJ _ 7 (by decide)
theorem BG(r:aA):sV (pI r) where
 head:=⟨Ax.zQ r,by
  intro n hn
  obtain⟨m,hm,rfl⟩:=List.mem_map.1 hn
  have:=tW _ m hm
  split<;>omega⟩
 body:=by
  intro b hb
  obtain⟨a,ha,rfl⟩:=List.mem_map.1 hb
  exact⟨Ax.nF a,tW a⟩
 two:=by simp[pI,bG];omega
 safe:=by
  intro n hn h3
  obtain⟨m,hm,rfl⟩:=List.mem_map.1 hn
  by_cases h:m<3∧¬m∈Ax.DI r
  · simp only[h,not_false_eq_true,and_self,if_true]at h3;omega
  · simp only[h,if_false]at h3 ⊢
    have hm3:m∈Ax.DI r:=by
     by_cases hc:m∈Ax.DI r
     · exact hc
     · exact absurd ⟨h3,hc⟩ h
    obtain⟨a,ha,XZ⟩:=List.mem_flatMap.1 hm3
    exact⟨_,List.mem_map.2 ⟨a,ha,rfl⟩,XZ⟩
theorem mn(l:List aA):∀r,r∈af l→sV r:=by
 intro r hr
 obtain⟨k,_,rfl⟩:=List.mem_map.1 hr
 exact BG k
theorem Gb(r:aA):lj (cO (pI r))=Ls r:=by
 simp[lj,Cm,cO,iQ,pI,Ls,jM]
theorem Qd(l:List aA):(eR (af l)).map (fun r=>lj (cO r))=gR l:=by
 have h:∀l:List aA,(l.map pI).map (fun r=>lj (cO r))=l.map Ls:=by
  intro l
  rw[List.map_map]
  exact List.map_congr_left fun r _=>Gb r
 show lj (cO b0)::lj (cO b1)::((l.take 6).map pI).map (fun r=>lj (cO r))=_
 rw[h]
 rfl
theorem Li{a b:Ax.Atom}(h:Cm a=Cm b)(f:b7)(e:Bind):dt a f e=dt b f e:=by
 simp only[Cm,Prod.mk.injEq]at h
 unfold dt
 rw[h.1,h.2]
theorem MV{a b:Ax.Atom}(h:Cm a=Cm b)(s:ByteArray→ByteArray):dD s a=dD s b:=by
 simp only[Cm,Prod.mk.injEq]at h
 unfold dD
 rw[h.1,h.2]
theorem Eg:∀(az bs:List Ax.Atom),az.map Cm=bs.map Cm→∀(fs:List b7) (e:Bind),hO az fs e=hO bs fs e
 | [],[],_,_,_=>rfl
 | [],b::bs,h,_,_=>by simp at h
 | a::az,[],h,_,_=>by simp at h
 | a::az,b::bs,h,fs,e=>by
  simp only[List.map_cons,List.cons.injEq]at h
  cases fs with
  | nil=>rfl
  | cons f fs=>
   unfold hO
   rw[Li h.1]
   cases dt b f e with
   | none=>rfl
   | some e'=>exact Eg az bs h.2 fs e'
theorem N6{r q:Ax.bD}(h:lj r=lj q):cS r=cS q:=by
 simp only[lj,Prod.mk.injEq]at h
 unfold cS
 have hl:=congrArg List.length h.2
 simp only[List.length_map]at hl
 have hi:gW r=gW q:=by
  funext fs
  unfold gW
  rw[Eg _ _ h.2]
  cases hO q.body fs []with
  | none=>rfl
  | some b=>simp only[Option.map_some];rw[MV h.1]
 rw[hl,hi]
theorem Av:∀(rs qs:List Ax.bD),rs.map lj=qs.map lj→rs.map cS=qs.map cS
 | [],[],_=>rfl
 | [],q::qs,h=>by simp at h
 | r::rs,[],h=>by simp at h
 | r::rs,q::qs,h=>by
  simp only[List.map_cons,List.cons.injEq]at h
  rw[List.map_cons,List.map_cons,N6 h.1,Av rs qs h.2]
theorem F4{l:List aA}{rs:List Ax.bD}(h:rs.map lj=gR l):rs.map cS=sR (af l):=by
 have:=Av rs ((eR (af l)).map cO) (by rw[h,←Qd,List.map_map];rfl)
 rw[this,List.map_map]
 rfl
end En
namespace Ax
theorem KZ{P:List ByteArray}{ar:ByteArray→Nat}{R:List ER}(hG:Good P ar R)(Fc:∀x,x∈bA R→(qp x).tok)(EY:∀x,x∈bA R→0≤x.1∧x.1≤8){t:ByteArray}(hL:PD t 0 ((bA R).map qp)):
 (split t).map er=bA R++[((1,⟨#[]⟩):EI)]:=by
 obtain⟨m,h1,h2⟩:=Af t _ hL (by intro y hy;obtain⟨x,hx,rfl⟩:=List.mem_map.1 hy;exact Fc x hx) (qW hG)
 have hs:(split t).map (fun t=>It.of (conv t))=(bA R++[((1,⟨#[]⟩):EI)]).map qp:=by
  have e:(split t).map (fun t=>It.of (conv t))=((split t).map conv).map It.of:=by rw[List.map_map];rfl
  rw[e,←uD,h1,List.map_append,h2,List.map_append]
  rfl
 have qG:∀(l:List Tok) (E:List EI),zV l→(∀x,x∈E→0≤x.1∧x.1≤8)→l.map (fun t=>It.of (conv t))=E.map qp→l.map er=E:=by
  intro l
  induction l with
  | nil=>intro E _ _ h;cases E with | nil=>rfl | cons _ _=>simp at h
  | cons a l ih=>
   intro E h1 h2 h
   cases E with
   | nil=>simp at h
   | cons x E=>
    simp only[List.map_cons,List.cons.injEq]at h
    rw[List.map_cons,G3 (h2 x (by simp)) (h1 a (by simp)) h.1,ih E (fun t ht=>h1 t (by simp[ht])) (fun y hy=>h2 y (by simp[hy])) h.2]
 exact qG (split t) _ (uu t) (by
  intro x hx
  rcases List.mem_append.1 hx with hx | hx
  · exact EY x hx
  · simp at hx;subst hx;exact⟨by decide,by decide⟩) hs
def bI(l:List EI):Nat:=(l.flatMap fun x=>x.2.data.toList).length
theorem Bc(a b:List EI):bI (a++b)=bI a+bI b:=by simp[bI]
theorem rJ(x:EI)(b:List EI):bI (x::b)=x.2.size+bI b:=by
 simp only[bI,List.flatMap_cons,List.length_append,Array.length_toList]
 rfl
theorem vS:bI []=0:=rfl
theorem rV(n:Nat):(bZ n).size≤2:=by unfold bZ;split<;>decide
theorem Ro(n:Nat):(iH n).size≤2:=by unfold iH;split<;>decide
theorem OO(n:Nat):(cp n).size≤3:=by unfold cp;split<;>decide
theorem xU(n:Nat):(tI (dM n)).2.size≤2:=by
 show(dM n).text.size≤2
 unfold dM
 split
 · exact Ro n
 · exact rV _
theorem wh(b:UInt8):(⟨#[b]⟩:ByteArray).size=1:=rfl
theorem su{p:Nat}{ts:List Nat}(h:gY p ts):bI (dC (jM p ts))≤12:=by
 have hp:=OO p
 have Wh:(∃a,ts=[a])∨∃a b,ts=[a,b]:=by
  obtain⟨_,h⟩:=h
  match ts with
  | []=>split at h<;>simp at h
  | [a]=>exact .inl ⟨a,rfl⟩
  | [a,b]=>exact .inr ⟨a,b,rfl⟩
  | _::_::_::_=>split at h<;>simp at h
 rcases Wh with⟨a,rfl⟩ | ⟨a,b,rfl⟩
 · have:=xU a
   simp only[dC,jM,List.map_cons,List.map_nil,dg,List.cons_append,List.nil_append,rJ,vS,lI,wh]
   omega
 · have:=xU a
   have:=xU b
   simp only[dC,jM,List.map_cons,List.map_nil,dg,List.cons_append,List.nil_append,rJ,vS,lI,wh]
   omega
theorem Nu{r:ER}(h1:∃p ts,r.1=jM p ts∧gY p ts)(h2:∀a,a∈r.2→∃p ts,a=jM p ts∧gY p ts)(h3:r.2.length≤2):bI (fg r)≤60:=by
 obtain⟨h,b⟩:=r
 obtain⟨p,ts,e,hk⟩:=h1
 have hh:=su hk
 simp only at e h2 h3
 rw[←e]at hh
 have two:(⟨#[58,45]⟩:ByteArray).size=2:=rfl
 match b,h2,h3 with
 | [],_,_=>
  simp only[fg,if_true,Bc,rJ,vS,wh]
  omega
 | [a],h2,_=>
  obtain⟨q,us,e2,mA⟩:=h2 a (by simp)
  have h4:=su mA
  rw[←e2]at h4
  have en:([a]:List EA)≠[]:=by simp
  simp only[fg,if_neg en,dG,Bc,rJ,vS,wh,two]
  omega
 | [a,c],h2,_=>
  obtain⟨q,us,e2,mA⟩:=h2 a (by simp)
  have h4:=su mA
  rw[←e2]at h4
  obtain⟨q,us,e3,Ig⟩:=h2 c (by simp)
  have h5:=su Ig
  rw[←e3]at h5
  have en:([a,c]:List EA)≠[]:=by simp
  simp only[fg,if_neg en,dG,Bc,rJ,vS,wh,two,lI]
  omega
theorem Ay:∀R:List ER,(∀r,r∈R→(∃p ts,r.1=jM p ts∧gY p ts)∧(∀a,a∈r.2→∃p ts,a=jM p ts∧gY p ts)∧r.2.length≤2)→bI (bA R)≤60*R.length
 | [],_=>by simp[bA,bI]
 | r::R,h=>by
  have h1:=Ay R (fun q hq=>h q (by simp[hq]))
  obtain⟨a,b,c⟩:=h r (by simp)
  have h2:=Nu a b c
  have e:bA (r::R)=fg r++bA R:=by simp[bA]
  rw[e,Bc,List.length_cons]
  omega
theorem kA(l:List aA):(aC l).size≤600:=by
 have h1:=Ay (gR l) (oy l)
 have h2:=(sA l).Cf
 have:(aC l).size=bI (bA (gR l)):=by
  show Array.size _=_
  simp[bI]
 omega
theorem KP(l:List aA):∃rs j,cU (split (aC l)) (split (aC l)).length 0 []=(some rs,j)∧rs.map lj=gR l∧dd 0 [] rs=none∧eN [] (rs.flatMap bD.atoms)=none∧cK rs=none∧read (aC l)=(aC l,0,0):=by
 have cR:=kA l
 have hL:PD (aC l) 0 ((bA (gR l)).map qp):=by
  refine Il (aC l) _ 0 (Nat.zero_le _) ?_
  rw[List.drop_zero]
  show _=((bA (gR l)).map qp).flatMap fun x=>x.text.data.toList
  rw[List.flatMap_map]
  rfl
 have rZ:=Ou l cR hL
 have hE:=KZ (sA l) (fun x hx=>xe x (rW l x hx)) (fun x hx=>rz x (rW l x hx)) hL
 have hlen:∀l:List ER,l.length≤(bA l).length:=by
  intro l
  induction l with
  | nil=>simp
  | cons r l ih=>simp[bA,fg]at ih ⊢;omega
 have hT:(gR l).length<(split (aC l)).length:=by
  have:=congrArg List.length hE
  simp only[List.length_map,List.length_append,List.length_singleton]at this
  have:=hlen (gR l)
  omega
 obtain⟨rs,h1,h2⟩:=nj (T:=split (aC l)) (gR l) (split (aC l)).length 0 [] ⟨#[]⟩ (fun r hr=>((sA l).fit r hr).1) (by rw[List.drop_zero];exact hE) hT
 rw[List.nil_append]at h1
 have TH:¬600<(aC l).size:=by omega
 have h3:dd 0 [] rs=none:=by
  cases h:dd 0 [] rs with
  | none=>rfl
  | some p=>rw[U1 TH h1 h]at rZ;simp at rZ
 have h4:eN [] (rs.flatMap bD.atoms)=none:=by
  cases h:eN [] (rs.flatMap bD.atoms)with
  | none=>rfl
  | some p=>rw[Up TH h1 h3 h]at rZ;simp at rZ
 have h5:cK rs=none:=by
  cases h:cK rs with
  | none=>rfl
  | some p=>rw[UQ TH h1 h3 h4 h]at rZ;simp at rZ
 exact⟨rs,_,h1,h2,h3,h4,h5,rZ⟩
end Ax
/- axiomkeep.instances: what its loops work out. -/
section
open Go.RowKit
def Vq(r:Ax.aA)(H:Nat→Bool)(m:Nat):Bool:=En.Vi (En.pI r) m&&(En.pI r).body.all fun b=>H (En.qM (En.gZ m) b)
def bS(r:Ax.aA)(H:Nat→Bool)(n:Nat):List Nat:=((List.range n).filter (Vq r H)).map fun m=>En.qM (En.gZ m) (En.pI r).head
theorem JU(r:Ax.aA)(H:Nat→Bool)(n:Nat):(bS r H n).length≤n:=by
 unfold bS
 rw[List.length_map]
 exact Nat.le_trans (List.length_filter_le _ _) (by simp)
theorem Kd{r:Ax.aA}{H:Nat→Bool}{n:Nat}(h:Vq r H n=true):bS r H (n+1)=bS r H n++[En.qM (En.gZ n) (En.pI r).head]:=by
 unfold bS
 rw[List.range_succ,List.filter_append,List.map_append]
 simp[h]
theorem OU{r:Ax.aA}{H:Nat→Bool}{n:Nat}(h:Vq r H n=false):bS r H (n+1)=bS r H n:=by
 unfold bS
 rw[List.range_succ,List.filter_append,List.map_append]
 simp[h]
theorem Mt(r:Ax.aA)(H:Nat→Bool):bS r H 64=En.cB (En.pI r) H:=by
 unfold bS En.cB En.BX En.vs
 rw[List.filter_filter]
 congr 2
 funext m
 unfold Vq
 rw[Bool.and_comm]
theorem OC(r:Ax.aA)(v:Nat):qS r v=En.sw (En.pI r) v:=by
 unfold qS En.sw En.pI
 rw[List.any_map]
 rfl
def NS(r:Ax.aA)(n:Nat):Nat→Bool
 | 0=>true
 | i+1=>NS r n i&&(qS r i||decide (En.gZ n i=0))
theorem Xg(r:Ax.aA)(n:Nat):NS r n 3=En.Vi (En.pI r) n:=by
 simp only[NS,En.Vi,OC,Bool.true_and]
def Ha(r:Ax.aA)(H:Nat→Bool)(n k:Nat):Bool:=NS r n 3&&((Ax.bG r).take k).all fun b=>H (En.qM (En.gZ n) (Ax.aT b.pred 3,Ax.a8 b))
theorem WB(r:Ax.aA)(H:Nat→Bool)(n:Nat):Ha r H n 0=NS r n 3:=by simp[Ha]
theorem Nx{r:Ax.aA}{H:Nat→Bool}{n k:Nat}(hk:k<(Ax.bG r).length)(h:Ha r H n k=true):Ha r H n (k+1)=H (En.qM (En.gZ n) (Ax.aT ((Ax.bG r)[k]).pred 3,Ax.a8 (Ax.bG r)[k])):=by
 unfold Ha at h ⊢
 rw[Bool.and_eq_true]at h
 have e0:(Ax.bG r).take (k+1)=(Ax.bG r).take k++[(Ax.bG r)[k]]:=by rw[List.take_add_one,List.getElem?_eq_getElem hk];rfl
 rw[e0,List.all_append,h.1,h.2]
 simp
theorem Hn{r:Ax.aA}{H:Nat→Bool}{n:Nat}:Ha r H n (Ax.bG r).length=Vq r H n:=by
 unfold Ha Vq
 rw[Xg,List.take_length]
 congr 1
 unfold En.pI
 rw[List.all_map]
 rfl
theorem IX{r:Ax.aA}{H:Nat→Bool}{n k:Nat}(h:Ha r H n k=false):Vq r H n=false:=by
 rw[←Hn]
 unfold Ha at h ⊢
 cases h2:NS r n 3 with
 | false=>simp
 | true=>
  rw[h2,Bool.true_and]at h
  rw[Bool.true_and]
  rw[List.all_eq_false]at h ⊢
  obtain⟨x,hx,hn⟩:=h
  exact⟨x,by rw[List.take_length];exact List.mem_of_mem_take hx,hn⟩
def dK(H:Nat→Bool):List Value:=(List.range 36).map fun i=>.bool (H i)
theorem mi(H:Nat→Bool){i:Nat}(h:i<36):(dK H)[i]?=some (.bool (H i)):=by simp[dK,h]
def dJ(w:World)(hb:Nat)(H:Nat→Bool):Prop:=w.heap[hb]?=some (.cells (dK H).toArray 4 (0,0))
theorem dJ.below{w w':World}{hb:Nat}{H:Nat→Bool}(h:dJ w hb H)(kE:Below w.heap.size w w'):dJ w' hb H:=by
 unfold dJ
 rw[kE.block _ (lt_of_heap h)]
 exact h
theorem dJ.cell{w:World}{hb:Nat}{H:Nat→Bool}(h:dJ w hb H){i:Nat}(hi:i<36):w.cell? ⟨hb,i,none⟩=some (.bool (H i)):=by
 rw[cell_of_row _ _ _ _ _ _ h]
 simpa using mi H hi
structure wV(w wr:World)(rc:Array Value)(out:Value)(xs:List Nat):Prop where
 box:wr.heap[w.heap.size]?=some (.cells rc 94 (0,0))
 row:wr.ownsRow (w.heap.size+1) 3 1 out xs.length (an xs)
 aQ:Below w.heap.size w wr
theorem wV.below{w wr w':World}{rc:Array Value}{out:Value}{xs:List Nat}(h:wV w wr rc out xs)(hb:Below wr.heap.size wr w'):wV w w' rc out xs:=
 ⟨by rw[hb.block _ (lt_of_heap h.box)];exact h.box,ah h.row hb,h.aQ.trans (hb.mono h.aQ.size)⟩
theorem wV.grown{w wr w':World}{rc:Array Value}{out v2:Value}{xs:List Nat}{x:Nat}(h:wV w wr rc out xs)(hg:wr.grownBy w' out.ownBlock)(ho:w'.ownsRow (w.heap.size+1) 3 1 v2 (xs.length+1) (an xs++[.int .i64 (x:Nat)])):wV w w' rc v2 (xs++[x]):=by
 obtain⟨b1,b2⟩:=An h.box h.aQ hg (fun k hk=>(h.row.lt k hk).1)
 refine⟨b1, ?_,b2⟩
 rw[pW,List.length_append]
 exact ho
structure eK(w wr:World)(rc:Array Value)(out:Value)(xs:List Nat)(n vb:Nat):Prop where
 iw:wV w wr rc out xs
 row:wr.ownsRow 0 3 1 (.slice (some ⟨vb,0,none⟩) 3 3) 3 (an [En.gZ n 0,En.gZ n 1,En.gZ n 2])
theorem eK.below{w wr w':World}{rc:Array Value}{out:Value}{xs:List Nat}{n vb:Nat}(h:eK w wr rc out xs n vb)(hb:Below wr.heap.size wr w'):eK w w' rc out xs n vb:=⟨h.iw.below hb,ah h.row hb⟩
theorem eK.cell{w wr:World}{rc:Array Value}{out:Value}{xs:List Nat}{n vb:Nat}(h:eK w wr rc out xs n vb){i:Nat}(hi:i<3):wr.cell? ⟨vb,i,none⟩=some (.int .i64 (En.gZ n i:Nat))∧vb<wr.heap.size:=by
 obtain⟨g,e,hg,_,br⟩:=aD h.row (by omega)
 have e2:g=vb:=by simp at e;exact e.symm
 subst e2
 refine⟨?_,hg⟩
 match i,hi with
 | 0,_=>exact br 0 _ rfl
 | 1,_=>exact br 1 _ rfl
 | 2,_=>exact br 2 _ rfl
theorem eK.OI{w wr:World}{a b c d:Value}{out:Value}{xs:List Nat}{n vb:Nat}(h:eK w wr #[a,b,c,d] out xs n vb):wr.cell? ⟨w.heap.size,0,none⟩=some a∧wr.cell? ⟨w.heap.size,1,none⟩=some b∧wr.cell? ⟨w.heap.size,2,none⟩=some c∧wr.cell? ⟨w.heap.size,3,none⟩=some d∧w.heap.size<wr.heap.size:=
 ⟨by rw[cell_of_row _ _ _ _ _ _ h.iw.box];rfl,by rw[cell_of_row _ _ _ _ _ _ h.iw.box];rfl,by rw[cell_of_row _ _ _ _ _ _ h.iw.box];rfl,by rw[cell_of_row _ _ _ _ _ _ h.iw.box];rfl,lt_of_heap h.iw.box⟩
end
end Go.Proofs.YtdmicblafmhflaaGreatDoor
