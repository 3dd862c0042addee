/- Rules and facts in numbers, as axiomkeep's laws have them. No program here. -/
import Derived.Test.YtdmicblafmhflaaGreatDoorC08
import Derived.Test.YtdmicblafmhflaaGreatDoorC03
set_option linter.unusedSimpArgs false
set_option linter.unusedVariables false
set_option maxHeartbeats 4000000
set_option maxRecDepth 100000
namespace Go.Proofs.YtdmicblafmhflaaGreatDoor
namespace En
open Ax (bZ cp iH dM gY)
abbrev NA:=Nat×List Nat
structure bC where
 head:NA
 body:List NA
def yo(a:NA):Prop:=gY a.1 a.2∧∀n,n∈a.2→n<7
structure sV(r:bC):Prop where
 head:yo r.head
 body:∀b,b∈r.body→yo b
 two:r.body.length≤2
 safe:∀n,n∈r.head.2→n<3→∃b,b∈r.body∧n∈b.2
def iQ(a:NA):Ax.Atom:=⟨0,cp a.1,a.2.map dM⟩
def cO(r:bC):Ax.bD:=⟨iQ r.head,r.body.map iQ⟩
def lJ(p:Nat)(xs:List Nat):b7:=(cp p,pad (xs.map bZ))
def mM(v:Nat→Nat)(n:Nat):Nat:=if n<3 then v n else n-3
def subst(v:Nat→Nat)(a:NA):b7:=lJ a.1 (a.2.map (mM v))
def sig(v:Nat→Nat):ByteArray→ByteArray:=fun y=>if y=iH 0 then bZ (v 0)else if y=iH 1 then bZ (v 1)else if y=iH 2 then bZ (v 2)else ⟨#[97]⟩
theorem nX(n:Nat):bZ n≠ee:=by
 unfold bZ ee
 split<;>decide
theorem Ur(v:Nat→Nat)(y:ByteArray):sig v y≠ee:=by
 unfold sig
 split
 · exact nX _
 · split
   · exact nX _
   · split
     · exact nX _
     · decide
theorem QE(v:Nat→Nat){n:Nat}(h:n<3):sig v (iH n)=bZ (v n):=by
 have:n=0∨n=1∨n=2:=by omega
 have h01:¬iH 1=iH 0:=by decide
 have h02:¬iH 2=iH 0:=by decide
 have h12:¬iH 2=iH 1:=by decide
 rcases this with rfl | rfl | rfl<;>simp[sig,h01,h02,h12]
theorem Zh{n m:Nat}(hn:n<3)(hm:m<3)(h:iH n=iH m):n=m:=by
 have a:n=0∨n=1∨n=2:=by omega
 have b:m=0∨m=1∨m=2:=by omega
 rcases a with rfl | rfl | rfl<;>rcases b with rfl | rfl | rfl<;>first | rfl | (exfalso;revert h;decide)
theorem IZ{n m:Nat}(hn:n<4)(hm:m<4)(h:bZ n=bZ m):n=m:=by
 have a:n=0∨n=1∨n=2∨n=3:=by omega
 have b:m=0∨m=1∨m=2∨m=3:=by omega
 rcases a with rfl | rfl | rfl | rfl<;>rcases b with rfl | rfl | rfl | rfl<;>first | rfl | (exfalso;revert h;decide)
theorem tK{n m:Nat}(hn:n<3)(hm:m<3)(h:cp n=cp m):n=m:=by
 have a:n=0∨n=1∨n=2:=by omega
 have b:m=0∨m=1∨m=2:=by omega
 rcases a with rfl | rfl | rfl<;>rcases b with rfl | rfl | rfl<;>first | rfl | (exfalso;revert h;decide)
theorem MQ(v:Nat→Nat)(n:Nat):dQ (sig v) (dM n)=bZ (mM v n):=by
 unfold dM mM
 by_cases h:n<3
 · rw[if_pos h,if_pos h]
   show(if (1:Int)=0 then iH n else sig v (iH n))=_
   rw[if_neg (by decide),QE v h]
 · rw[if_neg h,if_neg h]
   rfl
theorem AA(v:Nat→Nat)(a:NA):dD (sig v) (iQ a)=subst v a:=by
 unfold dD subst lJ iQ
 simp only[List.map_map]
 have e:List.map (dQ (sig v)∘dM) a.2=List.map (bZ∘mM v) a.2:=List.map_congr_left fun n _=>MQ v n
 rw[e]
theorem Bb{a b:List ByteArray}(hl:a.length=b.length)(h:pad a=pad b):a=b:=by
 have:=congrArg (fun l=>l.take a.length) h
 simp only[xE]at this
 rw[hl,xE]at this
 exact this
theorem lM:∀{a b:List Nat},(∀n,n∈a→n<4)→(∀n,n∈b→n<4)→a.map bZ=b.map bZ→a=b
 | [],[],_,_,_=>rfl
 | [],y::b,_,_,h=>by simp at h
 | x::a,[],_,_,h=>by simp at h
 | x::a,y::b,ha,hb,h=>by
  simp only[List.map_cons,List.cons.injEq]at h
  rw[IZ (ha x (by simp)) (hb y (by simp)) h.1,lM (fun n hn=>ha n (by simp[hn])) (fun n hn=>hb n (by simp[hn])) h.2]
def Can(f:b7):Prop:=∃p xs,gY p xs∧(∀x,x∈xs→x<4)∧f=lJ p xs
theorem Nn{f:b7}(hf:Can f){a:NA}(ha:yo a):zy (iQ a) f:=by
 obtain⟨p,xs,hk,hx,rfl⟩:=hf
 intro hp
 have Gf:a.1=p:=tK ha.1.1 hk.1 hp
 refine⟨xs.map bZ, ?_, ?_,rfl⟩
 · have h1:=ha.1.2
   have h2:=hk.2
   rw[Gf]at h1
   simp[iQ,h1,h2]
 · intro n hn
   obtain⟨x,_,rfl⟩:=List.mem_map.1 hn
   exact nX x
theorem BF(ts:List Nat):qE (ts.map dM):=by
 intro t ht hk
 obtain⟨n,_,rfl⟩:=List.mem_map.1 ht
 unfold dM at hk ⊢
 split
 · rename_i h;rw[if_pos h]at hk;cases hk
 · exact nX _
theorem Jr{v:Nat→Nat}(hv:∀i,i<3→v i<4){a:NA}(ha:yo a):Can (subst v a):=by
 refine⟨a.1,a.2.map (mM v),⟨ha.1.1,by rw[List.length_map];exact ha.1.2⟩, ?_,rfl⟩
 intro x hx
 obtain⟨n,hn,rfl⟩:=List.mem_map.1 hx
 unfold mM
 have:=ha.2 n hn
 split
 · rename_i h;exact hv n h
 · omega
theorem ud{r:bC}(h:sV r):Safe (cO r):=by
 intro t ht hk
 obtain⟨n,hn,rfl⟩:=List.mem_map.1 ht
 have h3:n<3:=by
  unfold dM at hk
  split at hk
  · assumption
  · exact absurd rfl hk
 obtain⟨b,hb,hm⟩:=h.safe n hn h3
 exact⟨iQ b,List.mem_map.2 ⟨b,hb,rfl⟩,dM n,List.mem_map.2 ⟨n,hm,rfl⟩,hk,rfl⟩
theorem rN(r:bC):Ei (cO r):=by
 intro a ha
 obtain⟨b,_,rfl⟩:=List.mem_map.1 ha
 exact BF b.2
end En
/- As many tuples of facts as values of the variables. No program here. -/
namespace En
open Ax (bZ cp iH dM gY)
def gZ(n:Nat):Nat→Nat:=fun i=>match i with | 0=>n%4 | 1=>n/4%4 | _=>n/16
theorem gD{n:Nat}(h:n<64)(i:Nat):gZ n i<4:=by
 match i with
 | 0=>show n%4<4;omega
 | 1=>show n/4%4<4;omega
 | (k+2)=>show n/16<4;omega
theorem PK{n m:Nat}(h:∀i,i<3→gZ n i=gZ m i):n=m:=by
 have h0:n%4=m%4:=h 0 (by decide)
 have h1:n/4%4=m/4%4:=h 1 (by decide)
 have h2:n/16=m/16:=h 2 (by decide)
 omega
theorem O0(v:Nat→Nat)(h:∀i,v i<4):∃n,n<64∧∀i,i<3→gZ n i=v i:=by
 have h0:=h 0
 have h1:=h 1
 have h2:=h 2
 refine⟨v 0+4*v 1+16*v 2,by omega, ?_⟩
 intro i hi
 have:i=0∨i=1∨i=2:=by omega
 rcases this with rfl | rfl | rfl
 · show(v 0+4*v 1+16*v 2)%4=v 0;omega
 · show(v 0+4*v 1+16*v 2)/4%4=v 1;omega
 · show(v 0+4*v 1+16*v 2)/16=v 2;omega
def sw(r:bC)(i:Nat):Bool:=r.body.any fun b=>decide (i∈b.2)
theorem sk{r:bC}{i:Nat}:sw r i=true↔∃b,b∈r.body∧i∈b.2:=by simp[sw]
def Vi(r:bC)(n:Nat):Bool:=(sw r 0||decide (gZ n 0=0))&&(sw r 1||decide (gZ n 1=0))&&(sw r 2||decide (gZ n 2=0))
theorem BB{r:bC}{n:Nat}:Vi r n=true↔∀i,i<3→sw r i=true∨gZ n i=0:=by
 unfold Vi
 simp only[Bool.and_eq_true,Bool.or_eq_true,decide_eq_true_eq]
 constructor
 · rintro⟨⟨h0,h1⟩,h2⟩ i hi
   have:i=0∨i=1∨i=2:=by omega
   rcases this with rfl | rfl | rfl
   · exact h0
   · exact h1
   · exact h2
 · intro h
   exact⟨⟨h 0 (by decide),h 1 (by decide)⟩,h 2 (by decide)⟩
def vs(r:bC):List Nat:=(List.range 64).filter (Vi r)
def GO(r:bC)(n:Nat):List b7:=r.body.map (subst (gZ n))
theorem iT{r:bC}{n:Nat}:n∈vs r↔n<64∧Vi r n=true:=by simp[vs]
theorem CM{v u:Nat→Nat}{b:NA}(hb:yo b)(hv:∀i,i<3→v i<4)(hu:∀i,i<3→u i<4)(h:subst v b=subst u b):∀i,i∈b.2→mM v i=mM u i:=by
 have aG:∀(w:Nat→Nat),(∀i,i<3→w i<4)→∀n,n∈b.2.map (mM w)→n<4:=by
  intro w hw n hn
  obtain⟨x,hx,rfl⟩:=List.mem_map.1 hn
  have:=hb.2 x hx
  unfold mM
  split
  · rename_i h;exact hw x h
  · omega
 unfold subst lJ at h
 have h2:=Bb (by simp) (Prod.mk.inj h).2
 have h3:=lM (aG v hv) (aG u hu) h2
 exact List.map_inj_left.1 h3
theorem Q7{r:bC}(hr:sV r){n m:Nat}(hn:n∈vs r)(hm:m∈vs r)(h:GO r n=GO r m):n=m:=by
 obtain⟨n1,n2⟩:=iT.1 hn
 obtain⟨m1,m2⟩:=iT.1 hm
 apply PK
 intro i hi
 rcases BB.1 n2 i hi with hu | h0
 · obtain⟨b,hb,ND⟩:=sk.1 hu
   have:=CM (hr.body b hb) (fun i _=>gD n1 i) (fun i _=>gD m1 i) (List.map_inj_left.1 h b hb) i ND
   unfold mM at this
   rwa [if_pos hi,if_pos hi]at this
 · rcases BB.1 m2 i hi with hu | h1
   · obtain⟨b,hb,ND⟩:=sk.1 hu
     have:=CM (hr.body b hb) (fun i _=>gD n1 i) (fun i _=>gD m1 i) (List.map_inj_left.1 h b hb) i ND
     unfold mM at this
     rwa [if_pos hi,if_pos hi]at this
   · rw[h0,h1]
theorem DT{r:bC}(hr:sV r){fs:List b7}(hf:∀f,f∈fs→Can f):∀x,x∈(cO r).body.zip fs→zy x.1 x.2:=by
 intro x hx
 obtain⟨h1,h2⟩:=List.of_mem_zip hx
 obtain⟨b,hb,e⟩:=List.mem_map.1 h1
 rw[←e]
 exact Nn (hf _ h2) (hr.body b hb)
theorem rk{r:bC}(hr:sV r){n:Nat}(hn:n<64):gW (cO r) (GO r n)=some (subst (gZ n) r.head):=by
 have hc:∀f,f∈GO r n→Can f:=by
  intro f hf
  obtain⟨b,hb,rfl⟩:=List.mem_map.1 hf
  exact Jr (fun i _=>gD hn i) (hr.body b hb)
 rw[zo (ud hr) (rN r) (DT hr hc)]
 refine⟨sig (gZ n),Ur _, ?_,(AA _ _).symm⟩
 unfold GO cO
 simp only[List.map_map]
 exact List.map_congr_left fun b _=>(AA _ _).symm
theorem NJ{r:bC}(hr:sV r){fs:List b7}(hf:∀f,f∈fs→Can f){h:b7}(hi:gW (cO r) fs=some h):∃n,n∈vs r∧GO r n=fs:=by
 rw[zo (ud hr) (rN r) (DT hr hf)]at hi
 obtain⟨s,hs,e,_⟩:=hi
 have DW:∀b,b∈r.body→∃xs:List Nat,xs.length=b.2.length∧(∀x,x∈xs→x<4)∧b.2.map (fun n=>dQ s (dM n))=xs.map bZ:=by
  intro b hb
  have hm:dD s (iQ b)∈fs:=by
   rw[e]
   exact List.mem_map.2 ⟨iQ b,List.mem_map.2 ⟨b,hb,rfl⟩,rfl⟩
  obtain⟨p,xs,hk,hx,Vt⟩:=hf _ hm
  unfold dD lJ iQ at Vt
  simp only[List.map_map,Prod.mk.injEq]at Vt
  have hp:=tK (hr.body b hb).1.1 hk.1 Vt.1
  have hl:xs.length=b.2.length:=by
   have h1:=(hr.body b hb).1.2
   have h2:=hk.2
   rw[hp]at h1
   omega
  refine⟨xs,hl,hx, ?_⟩
  exact Bb (by simp[hl]) Vt.2
 have hex:∀i,∃x,x<4∧(sw r i=true→i<3→s (iH i)=bZ x)∧(sw r i=false→x=0):=by
  intro i
  by_cases hu:sw r i=true
  · by_cases hi3:i<3
    · obtain⟨b,hb,ND⟩:=sk.1 hu
      obtain⟨xs,hl,hx,hm⟩:=DW b hb
      obtain⟨j,hj,ej⟩:=List.getElem_of_mem ND
      have:=congrArg (fun l=>l[j]?) hm
      simp only[List.getElem?_map,List.getElem?_eq_getElem hj,List.getElem?_eq_getElem (show j<xs.length by omega),Option.map_some,Option.some.injEq]at this
      refine⟨xs[j]'(by omega),hx _ (List.getElem_mem _),fun _ _=> ?_,fun hf=>by rw[hu]at hf;cases hf⟩
      rw[←this,ej]
      unfold dM dQ
      rw[if_pos hi3]
      show _=if (1:Int)=0 then _ else _
      rw[if_neg (by decide)]
    · exact⟨0,by decide,fun _ h=>absurd h hi3,fun _=>rfl⟩
  · exact⟨0,by decide,fun h=>absurd h hu,fun _=>rfl⟩
 obtain⟨v,hv⟩:∃v:Nat→Nat,∀i,v i<4∧(sw r i=true→i<3→s (iH i)=bZ (v i))∧(sw r i=false→v i=0):=⟨fun i=>Classical.choose (hex i),fun i=>Classical.choose_spec (hex i)⟩
 obtain⟨n,hn,hnv⟩:=O0 v (fun i=>(hv i).1)
 refine⟨n,iT.2 ⟨hn,BB.2 fun i hi=> ?_⟩, ?_⟩
 · by_cases hu:sw r i=true
   · exact .inl hu
   · right
     rw[hnv i hi]
     exact(hv i).2.2 (by simpa using hu)
 · rw[e]
   unfold GO cO
   simp only[List.map_map]
   apply List.map_congr_left
   intro b hb
   unfold subst lJ
   show _=dD s (iQ b)
   unfold dD iQ
   simp only[List.map_map]
   congr 2
   apply List.map_congr_left
   intro x hx
   show bZ (mM (gZ n) x)=dQ s (dM x)
   unfold mM dM dQ
   by_cases h3:x<3
   · rw[if_pos h3,if_pos h3]
     show _=if (1:Int)=0 then _ else _
     rw[if_neg (by decide),hnv x h3]
     exact((hv x).2.1 (sk.2 ⟨b,hb,hx⟩) h3).symm
   · rw[if_neg h3,if_neg h3]
     rfl
theorem Ge{F:Type}{k:Nat}(hk:k≤2){L:List F}(h:L.Nodup):(iK k L).Nodup:=by
 have:k=0∨k=1∨k=2:=by omega
 rcases this with e | e | e<;>subst e
 · simp[iK]
 · show(L.map fun x=>[x]).Pairwise (· ≠ ·)
   rw[List.pairwise_map]
   exact List.Pairwise.imp (fun rG e=>rG (by simpa using e)) h
 · show(L.flatMap fun x=>L.map fun y=>[x,y]).Nodup
   show List.Pairwise (· ≠ ·) _
   rw[List.pairwise_flatMap]
   refine⟨fun x _=> ?_,List.Pairwise.imp ?_ h⟩
   · rw[List.pairwise_map]
     exact List.Pairwise.imp (fun rG e=>rG (by simpa using e)) h
   · intro a b rG x hx y hy e
     subst e
     obtain⟨c,_,rfl⟩:=List.mem_map.1 hx
     obtain⟨d,_,e⟩:=List.mem_map.1 hy
     simp at e
     exact rG e.1.symm
theorem Ip{α β:Type}{f:α→Option β}{g:α→β}:∀(l:List α),(∀x,x∈l→f x=some (g x))→l.filterMap f=l.map g
 | [],_=>rfl
 | x::l,h=>by
  rw[List.filterMap_cons_some (h x (by simp)),Ip l (fun y hy=>h y (by simp[hy])),List.map_cons]
def Pv(r:bC)(L:List b7):List Nat:=(vs r).filter fun n=>(GO r n).all fun f=>hasB L f
theorem Tx{r:bC}(hr:sV r){L:List b7}(hL:L.Nodup)(hC:∀f,f∈L→Can f)(h:b7):
 jX (cS (cO r)) (iK r.body.length L) h=iF ((Pv r L).map fun n=>subst (gZ n) r.head) h:=by
 have MD:List.Perm ((iK r.body.length L).filter fun fs=>(gW (cO r) fs).isSome) ((Pv r L).map (GO r)):=by
  rw[List.perm_ext_iff_of_nodup]
  · intro fs
    rw[List.mem_filter,List.mem_map,xV hr.two]
    constructor
    · rintro⟨⟨h1,h2⟩,h3⟩
      obtain⟨x,hx⟩:=Option.isSome_iff_exists.1 h3
      obtain⟨n,hn,e⟩:=NJ hr (fun f hf=>hC f (h2 f hf)) hx
      refine⟨n, ?_,e⟩
      unfold Pv
      rw[List.mem_filter]
      refine⟨hn, ?_⟩
      rw[e,List.all_eq_true]
      intro f hf
      exact xj.2 (h2 f hf)
    · rintro⟨n,hn,rfl⟩
      unfold Pv at hn
      rw[List.mem_filter,List.all_eq_true]at hn
      refine⟨⟨by simp[GO],fun f hf=>xj.1 (hn.2 f hf)⟩, ?_⟩
      rw[rk hr (iT.1 hn.1).1]
      rfl
  · exact(Ge hr.two hL).filter _
  · unfold Pv
    rw[List.nodup_iff_pairwise_ne,List.pairwise_map]
    have DE:((vs r).filter fun n=>(GO r n).all fun f=>hasB L f).Nodup:=by
     unfold vs
     exact(List.nodup_range.filter _).filter _
    refine List.Pairwise.imp_of_mem ?_ DE
    intro a b ha hb rG e
    exact rG (Q7 hr (List.mem_filter.1 ha).1 (List.mem_filter.1 hb).1 e)
 have e1:(iK r.body.length L).filterMap (gW (cO r))=((iK r.body.length L).filter fun fs=>(gW (cO r) fs).isSome).filterMap (gW (cO r)):=by
  rw[List.filterMap_filter]
  congr 1
  funext fs
  cases gW (cO r) fs<;>simp
 have e2:((Pv r L).map (GO r)).filterMap (gW (cO r))=(Pv r L).map fun n=>subst (gZ n) r.head:=by
  rw[List.filterMap_map]
  apply Ip
  intro n hn
  unfold Pv at hn
  exact rk hr (iT.1 (List.mem_filter.1 hn).1).1
 rw[B4]
 show iF ((iK r.body.length L).filterMap (gW (cO r))) h=_
 rw[e1,←e2]
 exact Cp (MD.filterMap _) h
end En
/- What axiomkeep's least works out: the least set that holds what is given and what follows. No program here. -/
namespace En
open Ax (bZ cp iH dM gY)
def lR(p:Nat)(xs:List Nat):Nat:=if p=0 then xs.getD 0 0 else 4+16*(p-1)+4*xs.getD 0 0+xs.getD 1 0
def uF(i:Nat):b7:=if i<4 then lJ 0 [i]else if i<20 then lJ 1 [(i-4)/4,(i-4)%4]else lJ 2 [(i-20)/4,(i-20)%4]
theorem Jp{xs:List Nat}(h:xs.length=1):∃a,xs=[a]:=by
 match xs,h with
 | [a],_=>exact⟨a,rfl⟩
theorem zL{xs:List Nat}(h:xs.length=2):∃a b,xs=[a,b]:=by
 match xs,h with
 | [a,b],_=>exact⟨a,b,rfl⟩
theorem xz{p:Nat}{xs:List Nat}(h:gY p xs):(p=0∧∃a,xs=[a])∨(p=1∧∃a b,xs=[a,b])∨(p=2∧∃a b,xs=[a,b]):=by
 obtain⟨h1,h2⟩:=h
 have:p=0∨p=1∨p=2:=by omega
 rcases this with rfl | rfl | rfl
 · exact .inl ⟨rfl,Jp (by simpa using h2)⟩
 · exact .inr (.inl ⟨rfl,zL (by simpa using h2)⟩)
 · exact .inr (.inr ⟨rfl,zL (by simpa using h2)⟩)
theorem Ie{p:Nat}{xs:List Nat}(h:gY p xs)(hx:∀x,x∈xs→x<4):lR p xs<36:=by
 rcases xz h with⟨rfl,a,rfl⟩ | ⟨rfl,a,b,rfl⟩ | ⟨rfl,a,b,rfl⟩
 · have:=hx a (by simp)
   simp[lR];omega
 · have:=hx a (by simp)
   have:=hx b (by simp)
   simp[lR];omega
 · have:=hx a (by simp)
   have:=hx b (by simp)
   simp[lR];omega
theorem MG{p:Nat}{xs:List Nat}(h:gY p xs)(hx:∀x,x∈xs→x<4):uF (lR p xs)=lJ p xs:=by
 rcases xz h with⟨rfl,a,rfl⟩ | ⟨rfl,a,b,rfl⟩ | ⟨rfl,a,b,rfl⟩
 · have:=hx a (by simp)
   have e:lR 0 [a]=a:=by simp[lR]
   rw[e]
   unfold uF
   rw[if_pos (by omega)]
 · have:=hx a (by simp)
   have:=hx b (by simp)
   have e:lR 1 [a,b]=4+4*a+b:=by simp[lR]
   rw[e]
   unfold uF
   rw[if_neg (by omega),if_pos (by omega),show(4+4*a+b-4)/4=a by omega,show(4+4*a+b-4)%4=b by omega]
 · have:=hx a (by simp)
   have:=hx b (by simp)
   have e:lR 2 [a,b]=20+4*a+b:=by simp[lR]
   rw[e]
   unfold uF
   rw[if_neg (by omega),if_neg (by omega),show(20+4*a+b-20)/4=a by omega,show(20+4*a+b-20)%4=b by omega]
theorem NF{i:Nat}(h:i<36):Can (uF i):=by
 unfold uF
 split
 · exact⟨0,[i],⟨by decide,rfl⟩,by simp;omega,rfl⟩
 · split
   · exact⟨1,[(i-4)/4,(i-4)%4],⟨by decide,rfl⟩,by simp;omega,rfl⟩
   · exact⟨2,[(i-20)/4,(i-20)%4],⟨by decide,rfl⟩,by simp;omega,rfl⟩
theorem NH{f:b7}(h:Can f):∃i,i<36∧f=uF i:=by
 obtain⟨p,xs,hk,hx,rfl⟩:=h
 exact⟨lR p xs,Ie hk hx,(MG hk hx).symm⟩
theorem KK{p q:Nat}{xs ys:List Nat}(h1:gY p xs)(h2:gY q ys)(hx:∀x,x∈xs→x<4)(hy:∀x,x∈ys→x<4)(h:lJ p xs=lJ q ys):p=q∧xs=ys:=by
 unfold lJ at h
 simp only[Prod.mk.injEq]at h
 have hp:=tK h1.1 h2.1 h.1
 subst hp
 have hl:xs.length=ys.length:=by rw[h1.2,h2.2]
 exact⟨rfl,lM hx hy (Bb (by simp[hl]) h.2)⟩
theorem qq{i j:Nat}(hi:i<36)(hj:j<36)(h:uF i=uF j):i=j:=by
 have key:∀k,k<36→∃p xs,gY p xs∧(∀x,x∈xs→x<4)∧uF k=lJ p xs∧lR p xs=k:=by
  intro k hk
  unfold uF
  split
  · exact⟨0,[k],⟨by decide,rfl⟩,by simp;omega,rfl,by simp[lR]⟩
  · split
    · exact⟨1,_,⟨by decide,rfl⟩,by simp;omega,rfl,by simp[lR];omega⟩
    · exact⟨2,_,⟨by decide,rfl⟩,by simp;omega,rfl,by simp[lR];omega⟩
 obtain⟨p,xs,k1,x1,e1,d1⟩:=key i hi
 obtain⟨q,ys,k2,x2,e2,d2⟩:=key j hj
 rw[e1,e2]at h
 obtain⟨rfl,rfl⟩:=KK k1 k2 x1 x2 h
 rw[←d1,d2]
def qM(v:Nat→Nat)(a:NA):Nat:=lR a.1 (a.2.map (mM v))
theorem py{v:Nat→Nat}(hv:∀i,i<3→v i<4){a:NA}(ha:yo a):gY a.1 (a.2.map (mM v))∧∀x,x∈a.2.map (mM v)→x<4:=by
 refine⟨⟨ha.1.1,by rw[List.length_map];exact ha.1.2⟩, ?_⟩
 intro x hx
 obtain⟨n,hn,rfl⟩:=List.mem_map.1 hx
 have:=ha.2 n hn
 unfold mM
 split
 · rename_i h;exact hv n h
 · omega
theorem mP{v:Nat→Nat}(hv:∀i,i<3→v i<4){a:NA}(ha:yo a):qM v a<36:=Ie (py hv ha).1 (py hv ha).2
theorem tL{v:Nat→Nat}(hv:∀i,i<3→v i<4){a:NA}(ha:yo a):uF (qM v a)=subst v a:=MG (py hv ha).1 (py hv ha).2
def BX(r:bC)(H:Nat→Bool):List Nat:=(vs r).filter fun n=>r.body.all fun b=>H (qM (gZ n) b)
def cB(r:bC)(H:Nat→Bool):List Nat:=(BX r H).map fun n=>qM (gZ n) r.head
def dh(H:Nat→Bool)(l:List Nat):Nat→Bool:=fun i=>H i||decide (i∈l)
def cM(R:List bC)(H:Nat→Bool):Nat→Bool:=R.foldl (fun H r=>dh H (cB r H)) H
def rounds(R:List bC):Nat→(Nat→Bool)→Nat→Bool
 | 0,H=>H
 | n+1,H=>rounds R n (cM R H)
theorem jG:∀(R:List bC) (H:Nat→Bool) (i:Nat),H i=true→cM R H i=true
 | [],_,_,h=>h
 | r::R,H,i,h=>by
  show cM R (dh H (cB r H)) i=true
  exact jG R _ i (by simp[dh,h])
theorem LZ{r:bC}{H K:Nat→Bool}(h:∀i,H i=true→K i=true){n:Nat}(hn:n∈BX r H):n∈BX r K:=by
 unfold BX at hn ⊢
 rw[List.mem_filter,List.all_eq_true]at hn ⊢
 exact⟨hn.1,fun b hb=>h _ (hn.2 b hb)⟩
theorem EV{r:bC}{H K:Nat→Bool}(h:∀i,H i=true→K i=true){i:Nat}(hi:i∈cB r H):i∈cB r K:=by
 obtain⟨n,hn,rfl⟩:=List.mem_map.1 hi
 exact List.mem_map.2 ⟨n,LZ h hn,rfl⟩
theorem qT:∀(R:List bC) (H:Nat→Bool) (r:bC),r∈R→∀i,i∈cB r H→cM R H i=true
 | [],_,_,h,_,_=>by cases h
 | q::R,H,r,hr,i,hi=>by
  show cM R (dh H (cB q H)) i=true
  rcases List.mem_cons.1 hr with rfl | hr
  · exact jG R _ i (by simp[dh,hi])
  · exact qT R _ r hr i (EV (fun j hj=>by simp[dh,hj]) hi)
def nw(R:List bC)(X:Nat→Prop):Prop:=∀r,r∈R→∀n,n∈vs r→(∀b,b∈r.body→X (qM (gZ n) b))→X (qM (gZ n) r.head)
theorem oM{X:Nat→Prop}:∀(R:List bC) (H:Nat→Bool),nw R X→(∀i,H i=true→X i)→∀i,cM R H i=true→X i
 | [],_,_,h,i,hi=>h i hi
 | q::R,H,hX,h,i,hi=>by
  refine oM R (dh H (cB q H)) (fun r hr=>hX r (by simp[hr])) ?_ i hi
  intro j hj
  simp only[dh,Bool.or_eq_true,decide_eq_true_eq]at hj
  rcases hj with hj | hj
  · exact h j hj
  · obtain⟨n,hn,rfl⟩:=List.mem_map.1 hj
    unfold BX at hn
    rw[List.mem_filter,List.all_eq_true]at hn
    exact hX q (by simp) n hn.1 (fun b hb=>h _ (hn.2 b hb))
theorem rE{R:List bC}{X:Nat→Prop}(hX:nw R X):∀(n:Nat) (H:Nat→Bool),(∀i,H i=true→X i)→∀i,rounds R n H i=true→X i
 | 0,_,h,i,hi=>h i hi
 | n+1,H,h,i,hi=>rE hX n _ (oM R H hX h) i hi
theorem tH{R:List bC}:∀(n:Nat) (H:Nat→Bool) (i:Nat),H i=true→rounds R n H i=true
 | 0,_,_,h=>h
 | n+1,H,i,h=>tH n _ i (jG R H i h)
def Ag(H:Nat→Bool):Nat:=((List.range 36).filter fun i=>H i).length
theorem LV(H:Nat→Bool):Ag H≤36:=by
 unfold Ag
 have:=List.length_filter_le (fun i=>H i) (List.range 36)
 simpa using this
theorem filter_lt{α:Type}{p q:α→Bool}:∀(l:List α),(∀x,p x=true→q x=true)→(∃x,x∈l∧q x=true∧p x=false)→(l.filter p).length<(l.filter q).length
 | [],_,h=>by obtain⟨x,hx,_⟩:=h;cases hx
 | y::l,hpq,h=>by
  have hle:∀m:List α,(m.filter p).length≤(m.filter q).length:=by
   intro m
   induction m with
   | nil=>simp
   | cons z m ih=>
    rw[List.filter_cons,List.filter_cons]
    by_cases hp:p z=true
    · rw[if_pos hp,if_pos (hpq z hp)];simp;exact ih
    · rw[if_neg hp]
      split
      · simp;omega
      · exact ih
  rw[List.filter_cons,List.filter_cons]
  obtain⟨x,hx,h1,h2⟩:=h
  rcases List.mem_cons.1 hx with rfl | hx
  · rw[if_neg (by rw[h2];decide),if_pos h1]
    have:=hle l
    simp
    omega
  · have ih:=filter_lt l hpq ⟨x,hx,h1,h2⟩
    by_cases hp:p y=true
    · rw[if_pos hp,if_pos (hpq y hp)];simp;exact ih
    · rw[if_neg hp]
      split
      · simp;omega
      · exact ih
theorem uo{R:List bC}(hR:∀H i,36≤i→H i=false→cM R H i=false):∀(n:Nat) (H:Nat→Bool),(∀i,36≤i→H i=false)→36<n+Ag H→cM R (rounds R n H)=rounds R n H
 | 0,H,hH,h=>by have:=LV H;omega
 | n+1,H,hH,h=>by
  by_cases hs:cM R H=H
  · have:∀m,rounds R m H=H:=by
     intro m
     induction m with
     | zero=>rfl
     | succ m ih=>show rounds R m (cM R H)=H;rw[hs,ih]
    rw[this,hs]
  · show cM R (rounds R n (cM R H))=rounds R n (cM R H)
    refine uo hR n _ (fun i hi=>hR H i hi (hH i hi)) ?_
    have:Ag H<Ag (cM R H):=by
     unfold Ag
     apply filter_lt _ (fun i hi=>jG R H i hi)
     apply Classical.byContradiction
     intro hc
     apply hs
     funext i
     by_cases hi:i<36
     · cases h1:H i with
       | true=>exact jG R H i h1
       | false=>
        cases h2:cM R H i with
        | false=>rfl
        | true=>exact absurd ⟨i,by simpa using hi,h2,h1⟩ hc
     · rw[hH i (by omega),hR H i (by omega) (hH i (by omega))]
    omega
end En
/- axiomkeep.index. -/
section
open Go.RowKit
theorem Jv(w:World)(B p:Nat)(xs:List Nat)(v:Value)(au:w.ownsRow B 3 1 v xs.length (an xs))(hp:p<3)(hl:xs.length=if p=0 then 1 else 2)(hx:∀x,x∈xs→x<4):
 Calls Tryz.prog 125 #[.int .i64 p,v] w fun e w'=>e=.returned (.int .i64 (En.lR p xs:Nat))∧Below w.heap.size w w':=by
 obtain⟨ad,ac,hv⟩:=aj au
 subst hv
 obtain⟨g,rfl,hg,hc,br⟩:=aD au (by split at hl<;>omega)
 by_cases h0:p=0
 · subst h0
   rw[if_pos rfl]at hl
   obtain⟨x,rfl⟩:=List.length_eq_one_iff.1 hl
   have c0:=br 0 _ (show(an [x])[0]?=some (.int .i64 (x:Nat))from rfl)
   have Fy:=hx x (by simp)
   clear br au
   go_enter Tryz.func125,Tryz.ntmps125
   go_wp2_with fail
   go_ret
   exact⟨rfl,Below.refl _ _⟩
 · rw[if_neg h0]at hl
   obtain⟨x,y,rfl⟩:∃x y,xs=[x,y]:=by
    match xs,hl with
    | [x,y],_=>exact⟨x,y,rfl⟩
   have c0:=br 0 _ (show(an [x,y])[0]?=some (.int .i64 (x:Nat))from rfl)
   have c1:=br 1 _ (show(an [x,y])[1]?=some (.int .i64 (y:Nat))from rfl)
   have Fy:=hx x (by simp)
   have hy0:=hx y (by simp)
   have cE:((p:Int)==0)=false:=beq_eq_false_iff_ne.2 (by omega)
   have hE:Hid (En.lR p [x,y]=4+16*(p-1)+4*x+y):=by
    show(if p=0 then _ else _)=_
    rw[if_neg h0]
    rfl
   rw[hE.out]
   clear br au hl hx hE
   rcases(show p=1∨p=2 by omega)with rfl | rfl
   · go_enter Tryz.func125,Tryz.ntmps125
     go_wp2_with fail
     go_region
     go_wp2_with fail
     go_ret
     refine⟨?_,(Below.refl _ _).drew⟩
     go_num
   · go_enter Tryz.func125,Tryz.ntmps125
     go_wp2_with fail
     go_region
     go_wp2_with fail
     go_ret
     refine⟨?_,(Below.refl _ _).drew⟩
     go_num
end
/- axiomkeep: written. -/
section
open Go.RowKit
def Ea(x:Nat):ByteArray:=(Ax.dM x).text
def fT(i:Nat)(p:ByteArray)(x:Nat):ByteArray:=(if 0<i then p++⟨#[44]⟩else p)++Ea x
def lH:List Nat→Nat→ByteArray→ByteArray
 | [],_,p=>p
 | x::l,i,p=>lH l (i+1) (fT i p x)
theorem QQ{x:Nat}(h:x<3):(⟨#[88,89,90]⟩:ByteArray).extract x (x+1)=Ea x:=by
 have:x=0∨x=1∨x=2:=by omega
 rcases this with rfl | rfl | rfl<;>rfl
theorem Ol{x:Nat}(h:¬x<3):Ea x=Ax.bZ (x-3):=by simp[Ea,Ax.dM,h]
theorem Dr(x:Nat):(Ea x).size≤2:=by
 unfold Ea Ax.dM
 split
 · unfold Ax.iH;simp only;split<;>decide
 · unfold Ax.bZ;simp only;split<;>decide
theorem xi(x:Nat):(Ax.cp x).size≤3:=by unfold Ax.cp;split<;>decide
theorem ju{x n:Nat}(h:x<n):Ax.aT (x:Int) n=x:=by
 unfold Ax.aT
 rw[if_neg (by omega),Int.emod_eq_of_lt (by omega) (by omega)]
 omega
theorem Ow(x:Nat)(h3:¬x<3)(h7:x<7)(N:Int)(hN:N=(x:Int)-3):∀w,Calls Tryz.prog 122 #[.int .i64 N] w fun e w'=>e=.returned (.string (Ea x))∧Below w.heap.size w w':=by
 intro w
 have e:N=((x-3:Nat):Int):=by omega
 rw[e,Ol h3]
 have:=rK ((x-3:Nat):Int) w ⟨by omega,by omega⟩
 rw[ju (by omega)]at this
 exact this
theorem CH(w:World)(p:Int)(hp:cn p)(b:Nat)(ld:Option Addr)(lc:Nat)(ts:List Nat)(h:w.ownsRow b 3 1 (.slice ld ts.length lc) ts.length (an ts))(hl:ts.length≤1000)(h7:Hid (∀x,x∈ts→x<7))(R:ByteArray)(HR:Hid (lH ts 0 (Ax.cp (Ax.aT p 3)++⟨#[40]⟩)=R)):
 Calls Tryz.prog 61 #[.int .i64 p,.slice ld ts.length lc] w fun e w'=>e=.returned (.string (R++⟨#[41]⟩))∧Below w.heap.size w w':=by
 have pa:=fun w=>Dq p w hp
 have sI:=xi (Ax.aT p 3)
 generalize Ax.cp (Ax.aT p 3)=P at*
 have zU:Hid (∀w,Calls Tryz.prog 18 #[.int .i64 p] w fun e w'=>e=.returned (.string P)∧Below w.heap.size w w'):=pa
 clear pa
 have hP1:(P++⟨#[40]⟩:ByteArray).size≤10:=by rw[ByteArray.size_append];have:(⟨#[40]⟩:ByteArray).size=1:=rfl;omega
 go_enter Tryz.func61,Tryz.ntmps61
 go_wp2_with (go_at_call 18;refine(zU.out _).mono ?_;rintro e w1 ⟨rfl,bq⟩)
 go_loopw [5,6] (fun sv iv wr=>∃(i:Nat) (q:ByteArray),i≤ts.length∧sv=.string q∧iv=.int .i64 i∧Below w.heap.size w wr∧q.size≤10+10*i∧lH (ts.drop i) i q=R) (fun _ iv _=>ts.length-(intOf iv).toNat)
 case atStart=>exact⟨0,_,Nat.zero_le _,rfl,rfl,bq,by omega,HR.out⟩
 case round=>
  obtain⟨i,q,hi,rfl,rfl,aV,Fh,hr⟩:=hrel
  have Jh:Hid (lH (ts.drop i) i q=R):=hr
  clear hr HR
  have cR:=aV.size
  by_cases aG:i<ts.length
  · obtain⟨g,rfl,hg,hc,br⟩:=aD (ah h aV) (by omega)
    have c0:=br _ _ (se ts i aG)
    clear br
    have hx7:=h7.out _ (List.getElem_mem aG)
    have fq:ts.drop i=ts[i]::ts.drop (i+1):=List.drop_eq_getElem_cons aG
    rw[fq]at Jh
    clear fq
    generalize ts[i]=x at*
    have HN:Hid (lH (ts.drop (i+1)) (i+1) (fT i q x)=R):=Jh
    clear Jh
    have hxs:=Dr x
    have yG:(⟨#[44]⟩:ByteArray).size=1:=rfl
    have QP:Hid ((fT i q x).size≤10+10*(i+1)):=by
     show(fT i q x).size≤_
     unfold fT
     split
     · rw[ByteArray.size_append,ByteArray.size_append];omega
     · rw[ByteArray.size_append];omega
    have hq1:(q++⟨#[44]⟩:ByteArray).size≤11+10*i:=by rw[ByteArray.size_append];omega
    by_cases hx:x<3
    · have hxb:decide ((x:Int)<3)=true:=by simp;omega
      have hex:=QQ hx
      by_cases h0:0<i
      · have h0b:decide ((0:Int)<(i:Int))=true:=by simp;omega
        have HW:Hid (fT i q x=q++⟨#[44]⟩++Ea x):=by simp[Hid,fT,h0]
        go_wp2_with fail
        go_region
        all_goals (go_wp2_with fail)
        all_goals (go_roundw;(case rel=>exact⟨i+1,fT i q x,by omega,by rw[HW.out,←hex],by go_num,aV.drew,QP.out,HN.out⟩);(case measure=>simp[intOf];omega))
      · have h0b:decide ((0:Int)<(i:Int))=false:=by simp;omega
        have HW:Hid (fT i q x=q++Ea x):=by simp[Hid,fT,h0]
        go_wp2_with fail
        go_region
        all_goals (go_wp2_with fail)
        all_goals (go_roundw;(case rel=>exact⟨i+1,fT i q x,by omega,by rw[HW.out,←hex],by go_num,aV.drew,QP.out,HN.out⟩);(case measure=>simp[intOf];omega))
    · have hxb:decide ((x:Int)<3)=false:=by simp;omega
      have iJ:=Ow x hx hx7 ((x:Int)-3) rfl
      have Bp:Hid (∀w,Calls Tryz.prog 122 #[.int .i64 ((x:Int)-3)] w fun e w'=>e=.returned (.string (Ea x))∧Below w.heap.size w w'):=iJ
      clear iJ
      by_cases h0:0<i
      · have h0b:decide ((0:Int)<(i:Int))=true:=by simp;omega
        have HW:Hid (fT i q x=q++⟨#[44]⟩++Ea x):=by simp[Hid,fT,h0]
        go_wp2_with (go_at_call 122;refine(Bp.out _).mono ?_;rintro e w2 ⟨rfl,cw⟩)
        go_roundw
        case rel=>exact⟨i+1,fT i q x,by omega,by rw[HW.out],by go_num,aV.trans (cw.mono cR),QP.out,HN.out⟩
        case measure=>simp[intOf];omega
      · have h0b:decide ((0:Int)<(i:Int))=false:=by simp;omega
        have HW:Hid (fT i q x=q++Ea x):=by simp[Hid,fT,h0]
        go_wp2_with (go_at_call 122;refine(Bp.out _).mono ?_;rintro e w2 ⟨rfl,cw⟩)
        go_roundw
        case rel=>exact⟨i+1,fT i q x,by omega,by rw[HW.out],by go_num,aV.trans (cw.mono cR),QP.out,HN.out⟩
        case measure=>simp[intOf];omega
  · have YE:q=R:=by
     have:=Jh.out
     rw[List.drop_eq_nil_of_le (by omega)]at this
     exact this
    subst YE
    clear Jh
    go_wp2_with fail
    go_ret
    exact⟨rfl,aV⟩
end
/- axiomkeep: what written writes, as tokens. No program here. -/
section
def dE(l:List Ax.EI):List UInt8:=l.flatMap fun x=>x.2.data.toList
theorem ga(l l':List Ax.EI):dE (l++l')=dE l++dE l':=by simp[dE]
theorem gN(x:Ax.EI)(l:List Ax.EI):dE (x::l)=x.2.data.toList++dE l:=by simp[dE]
theorem CY:∀(l:List Nat) (i:Nat) (p:ByteArray),0<i→(lH l i p).data.toList=p.data.toList++l.flatMap fun x=>44::(Ea x).data.toList
 | [],i,p,_=>by simp[lH]
 | x::l,i,p,h=>by
  rw[lH,CY l (i+1) _ (by omega)]
  simp[fT,h,ByteArray.data_append]
theorem sE:∀(l:List Nat) (x:Nat),dE (Ax.dg ((x::l).map Ax.dM))=(Ea x).data.toList++l.flatMap fun x=>44::(Ea x).data.toList
 | [],x=>by simp[Ax.dg,dE,Ax.tI,Ea]
 | y::l,x=>by
  have ih:=sE l y
  rw[List.map_cons]at ih
  rw[List.map_cons,List.map_cons,Ax.dg,gN,gN,ih]
  simp[Ax.tI,Ax.lI,Ea]
theorem pP(p:Nat)(ts:List Nat)(h:ts≠[]):(lH ts 0 (Ax.cp p++⟨#[40]⟩)++⟨#[41]⟩:ByteArray).data.toList=dE (Ax.dC (Ax.jM p ts)):=by
 cases ts with
 | nil=>exact absurd rfl h
 | cons x l=>
  rw[ByteArray.data_append,Array.toList_append,lH,CY l 1 _ (by omega)]
  unfold Ax.dC Ax.jM
  simp only
  rw[gN,gN,ga,sE]
  simp[fT,ByteArray.data_append,dE]
end
end Go.Proofs.YtdmicblafmhflaaGreatDoor
