/- Rules and facts in numbers, as axiomkeep's laws have them. No program here. -/
import Derived.Test.YtdmicblafmhflaaGreatDoorC08
import Derived.Test.YtdmicblafmhflaaGreatDoorC03
set_option linter.unusedSimpArgs false
set_option linter.unusedVariables false
set_option maxHeartbeats 4000000
set_option maxRecDepth 100000
namespace Go.Proofs.YtdmicblafmhflaaGreatDoor
namespace En
open Ax (cf cu gY dG gM)
abbrev NA:=Nat×List Nat
structure bO where
 head:NA
 body:List NA
def DS(a:NA):Prop:=gM a.1 a.2∧∀n,n∈a.2→n<7
structure ub(r:bO):Prop where
 head:DS r.head
 body:∀b,b∈r.body→DS b
 two:r.body.length≤2
 safe:∀n,n∈r.head.2→n<3→∃b,b∈r.body∧n∈b.2
def iI(a:NA):Ax.Atom:=⟨0,cu a.1,a.2.map dG⟩
def cO(r:bO):Ax.br:=⟨iI r.head,r.body.map iI⟩
def lG(p:Nat)(xs:List Nat):cl:=(cu p,pad (xs.map cf))
def AD(v:Nat→Nat)(n:Nat):Nat:=if n<3 then v n else n-3
def subst(v:Nat→Nat)(a:NA):cl:=lG a.1 (a.2.map (AD v))
def sig(v:Nat→Nat):ByteArray→ByteArray:=fun y=>if y=gY 0 then cf (v 0)else if y=gY 1 then cf (v 1)else if y=gY 2 then cf (v 2)else ⟨#[97]⟩
theorem oE(n:Nat):cf n≠ee:=by
 unfold cf ee
 split<;>decide
theorem U2(v:Nat→Nat)(y:ByteArray):sig v y≠ee:=by
 unfold sig
 split
 · exact oE _
 · split
   · exact oE _
   · split
     · exact oE _
     · decide
theorem RZ(v:Nat→Nat){n:Nat}(h:n<3):sig v (gY n)=cf (v n):=by
 have:n=0∨n=1∨n=2:=by omega
 have h01:¬gY 1=gY 0:=by decide
 have h02:¬gY 2=gY 0:=by decide
 have VB:¬gY 2=gY 1:=by decide
 rcases this with rfl | rfl | rfl<;>simp[sig,h01,h02,VB]
theorem Yo{n m:Nat}(hn:n<3)(hm:m<3)(h:gY n=gY m):n=m:=by
 have a:n=0∨n=1∨n=2:=by omega
 have b:m=0∨m=1∨m=2:=by omega
 rcases a with rfl | rfl | rfl<;>rcases b with rfl | rfl | rfl<;>first | rfl | (exfalso;revert h;decide)
theorem La{n m:Nat}(hn:n<4)(hm:m<4)(h:cf n=cf m):n=m:=by
 have a:n=0∨n=1∨n=2∨n=3:=by omega
 have b:m=0∨m=1∨m=2∨m=3:=by omega
 rcases a with rfl | rfl | rfl | rfl<;>rcases b with rfl | rfl | rfl | rfl<;>first | rfl | (exfalso;revert h;decide)
theorem tw{n m:Nat}(hn:n<3)(hm:m<3)(h:cu n=cu m):n=m:=by
 have a:n=0∨n=1∨n=2:=by omega
 have b:m=0∨m=1∨m=2:=by omega
 rcases a with rfl | rfl | rfl<;>rcases b with rfl | rfl | rfl<;>first | rfl | (exfalso;revert h;decide)
theorem Oz(v:Nat→Nat)(n:Nat):dK (sig v) (dG n)=cf (AD v n):=by
 unfold dG AD
 by_cases h:n<3
 · rw[if_pos h,if_pos h]
   show(if (1:Int)=0 then gY n else sig v (gY n))=_
   rw[if_neg (by decide),RZ v h]
 · rw[if_neg h,if_neg h]
   rfl
theorem Ao(v:Nat→Nat)(a:NA):du (sig v) (iI a)=subst v a:=by
 unfold du subst lG iI
 simp only[List.map_map]
 have e:List.map (dK (sig v)∘dG) a.2=List.map (cf∘AD v) a.2:=List.map_congr_left fun n _=>Oz v n
 rw[e]
theorem Cj{a b:List ByteArray}(hl:a.length=b.length)(h:pad a=pad b):a=b:=by
 have:=congrArg (fun l=>l.take a.length) h
 simp only[wY]at this
 rw[hl,wY]at this
 exact this
theorem lR:∀{a b:List Nat},(∀n,n∈a→n<4)→(∀n,n∈b→n<4)→a.map cf=b.map cf→a=b
 | [],[],_,_,_=>rfl
 | [],y::b,_,_,h=>by simp at h
 | x::a,[],_,_,h=>by simp at h
 | x::a,y::b,ha,hb,h=>by
  simp only[List.map_cons,List.cons.injEq]at h
  rw[La (ha x (by simp)) (hb y (by simp)) h.1,lR (fun n hn=>ha n (by simp[hn])) (fun n hn=>hb n (by simp[hn])) h.2]
def Can(f:cl):Prop:=∃p xs,gM p xs∧(∀x,x∈xs→x<4)∧f=lG p xs
theorem Nu{f:cl}(hf:Can f){a:NA}(ha:DS a):Av (iI a) f:=by
 obtain⟨p,xs,hk,hx,rfl⟩:=hf
 intro hp
 have FP:a.1=p:=tw ha.1.1 hk.1 hp
 refine⟨xs.map cf, ?_, ?_,rfl⟩
 · have h1:=ha.1.2
   have h2:=hk.2
   rw[FP]at h1
   simp[iI,h1,h2]
 · intro n hn
   obtain⟨x,_,rfl⟩:=List.mem_map.1 hn
   exact oE x
theorem BH(ts:List Nat):qI (ts.map dG):=by
 intro t ht hk
 obtain⟨n,_,rfl⟩:=List.mem_map.1 ht
 unfold dG at hk ⊢
 split
 · rename_i h;rw[if_pos h]at hk;cases hk
 · exact oE _
theorem Li{v:Nat→Nat}(hv:∀i,i<3→v i<4){a:NA}(ha:DS a):Can (subst v a):=by
 refine⟨a.1,a.2.map (AD v),⟨ha.1.1,by rw[List.length_map];exact ha.1.2⟩, ?_,rfl⟩
 intro x hx
 obtain⟨n,hn,rfl⟩:=List.mem_map.1 hx
 unfold AD
 have:=ha.2 n hn
 split
 · rename_i h;exact hv n h
 · omega
theorem uB{r:bO}(h:ub r):Safe (cO r):=by
 intro t ht hk
 obtain⟨n,hn,rfl⟩:=List.mem_map.1 ht
 have h3:n<3:=by
  unfold dG at hk
  split at hk
  · assumption
  · exact absurd rfl hk
 obtain⟨b,hb,hm⟩:=h.safe n hn h3
 exact⟨iI b,List.mem_map.2 ⟨b,hb,rfl⟩,dG n,List.mem_map.2 ⟨n,hm,rfl⟩,hk,rfl⟩
theorem qN(r:bO):Ea (cO r):=by
 intro a ha
 obtain⟨b,_,rfl⟩:=List.mem_map.1 ha
 exact BH b.2
end En
/- As many tuples of facts as values of the variables. No program here. -/
namespace En
open Ax (cf cu gY dG gM)
def o6(n:Nat):Nat→Nat:=fun i=>match i with | 0=>n%4 | 1=>n/4%4 | _=>n/16
theorem iG{n:Nat}(h:n<64)(i:Nat):o6 n i<4:=by
 match i with
 | 0=>show n%4<4;omega
 | 1=>show n/4%4<4;omega
 | (k+2)=>show n/16<4;omega
theorem QC{n m:Nat}(h:∀i,i<3→o6 n i=o6 m i):n=m:=by
 have h0:n%4=m%4:=h 0 (by decide)
 have h1:n/4%4=m/4%4:=h 1 (by decide)
 have h2:n/16=m/16:=h 2 (by decide)
 omega
theorem Mg(v:Nat→Nat)(h:∀i,v i<4):∃n,n<64∧∀i,i<3→o6 n i=v i:=by
 have h0:=h 0
 have h1:=h 1
 have h2:=h 2
 refine⟨v 0+4*v 1+16*v 2,by omega, ?_⟩
 intro i hi
 have:i=0∨i=1∨i=2:=by omega
 rcases this with rfl | rfl | rfl
 · show(v 0+4*v 1+16*v 2)%4=v 0;omega
 · show(v 0+4*v 1+16*v 2)/4%4=v 1;omega
 · show(v 0+4*v 1+16*v 2)/16=v 2;omega
def uX(r:bO)(i:Nat):Bool:=r.body.any fun b=>decide (i∈b.2)
theorem rZ{r:bO}{i:Nat}:uX r i=true↔∃b,b∈r.body∧i∈b.2:=by simp[uX]
def ZZ(r:bO)(n:Nat):Bool:=(uX r 0||decide (o6 n 0=0))&&(uX r 1||decide (o6 n 1=0))&&(uX r 2||decide (o6 n 2=0))
theorem BX{r:bO}{n:Nat}:ZZ r n=true↔∀i,i<3→uX r i=true∨o6 n i=0:=by
 unfold ZZ
 simp only[Bool.and_eq_true,Bool.or_eq_true,decide_eq_true_eq]
 constructor
 · rintro⟨⟨h0,h1⟩,h2⟩ i hi
   have:i=0∨i=1∨i=2:=by omega
   rcases this with rfl | rfl | rfl
   · exact h0
   · exact h1
   · exact h2
 · intro h
   exact⟨⟨h 0 (by decide),h 1 (by decide)⟩,h 2 (by decide)⟩
def vs(r:bO):List Nat:=(List.range 64).filter (ZZ r)
def FW(r:bO)(n:Nat):List cl:=r.body.map (subst (o6 n))
theorem iJ{r:bO}{n:Nat}:n∈vs r↔n<64∧ZZ r n=true:=by simp[vs]
theorem DH{v u:Nat→Nat}{b:NA}(hb:DS b)(hv:∀i,i<3→v i<4)(hu:∀i,i<3→u i<4)(h:subst v b=subst u b):∀i,i∈b.2→AD v i=AD u i:=by
 have aE:∀(w:Nat→Nat),(∀i,i<3→w i<4)→∀n,n∈b.2.map (AD w)→n<4:=by
  intro w hw n hn
  obtain⟨x,hx,rfl⟩:=List.mem_map.1 hn
  have:=hb.2 x hx
  unfold AD
  split
  · rename_i h;exact hw x h
  · omega
 unfold subst lG at h
 have h2:=Cj (by simp) (Prod.mk.inj h).2
 have h3:=lR (aE v hv) (aE u hu) h2
 exact List.map_inj_left.1 h3
theorem QU{r:bO}(hr:ub r){n m:Nat}(hn:n∈vs r)(hm:m∈vs r)(h:FW r n=FW r m):n=m:=by
 obtain⟨n1,n2⟩:=iJ.1 hn
 obtain⟨m1,m2⟩:=iJ.1 hm
 apply QC
 intro i hi
 rcases BX.1 n2 i hi with hu | h0
 · obtain⟨b,hb,Mj⟩:=rZ.1 hu
   have:=DH (hr.body b hb) (fun i _=>iG n1 i) (fun i _=>iG m1 i) (List.map_inj_left.1 h b hb) i Mj
   unfold AD at this
   rwa [if_pos hi,if_pos hi]at this
 · rcases BX.1 m2 i hi with hu | h1
   · obtain⟨b,hb,Mj⟩:=rZ.1 hu
     have:=DH (hr.body b hb) (fun i _=>iG n1 i) (fun i _=>iG m1 i) (List.map_inj_left.1 h b hb) i Mj
     unfold AD at this
     rwa [if_pos hi,if_pos hi]at this
   · rw[h0,h1]
theorem DY{r:bO}(hr:ub r){fs:List cl}(hf:∀f,f∈fs→Can f):∀x,x∈(cO r).body.zip fs→Av x.1 x.2:=by
 intro x hx
 obtain⟨h1,h2⟩:=List.of_mem_zip hx
 obtain⟨b,hb,e⟩:=List.mem_map.1 h1
 rw[←e]
 exact Nu (hf _ h2) (hr.body b hb)
theorem qW{r:bO}(hr:ub r){n:Nat}(hn:n<64):gB (cO r) (FW r n)=some (subst (o6 n) r.head):=by
 have hc:∀f,f∈FW r n→Can f:=by
  intro f hf
  obtain⟨b,hb,rfl⟩:=List.mem_map.1 hf
  exact Li (fun i _=>iG hn i) (hr.body b hb)
 rw[Ae (uB hr) (qN r) (DY hr hc)]
 refine⟨sig (o6 n),U2 _, ?_,(Ao _ _).symm⟩
 unfold FW cO
 simp only[List.map_map]
 exact List.map_congr_left fun b _=>(Ao _ _).symm
theorem My{r:bO}(hr:ub r){fs:List cl}(hf:∀f,f∈fs→Can f){h:cl}(hi:gB (cO r) fs=some h):∃n,n∈vs r∧FW r n=fs:=by
 rw[Ae (uB hr) (qN r) (DY hr hf)]at hi
 obtain⟨s,hs,e,_⟩:=hi
 have Bp:∀b,b∈r.body→∃xs:List Nat,xs.length=b.2.length∧(∀x,x∈xs→x<4)∧b.2.map (fun n=>dK s (dG n))=xs.map cf:=by
  intro b hb
  have hm:du s (iI b)∈fs:=by
   rw[e]
   exact List.mem_map.2 ⟨iI b,List.mem_map.2 ⟨b,hb,rfl⟩,rfl⟩
  obtain⟨p,xs,hk,hx,VD⟩:=hf _ hm
  unfold du lG iI at VD
  simp only[List.map_map,Prod.mk.injEq]at VD
  have hp:=tw (hr.body b hb).1.1 hk.1 VD.1
  have hl:xs.length=b.2.length:=by
   have h1:=(hr.body b hb).1.2
   have h2:=hk.2
   rw[hp]at h1
   omega
  refine⟨xs,hl,hx, ?_⟩
  exact Cj (by simp[hl]) VD.2
 have hex:∀i,∃x,x<4∧(uX r i=true→i<3→s (gY i)=cf x)∧(uX r i=false→x=0):=by
  intro i
  by_cases hu:uX r i=true
  · by_cases hi3:i<3
    · obtain⟨b,hb,Mj⟩:=rZ.1 hu
      obtain⟨xs,hl,hx,hm⟩:=Bp b hb
      obtain⟨j,hj,ej⟩:=List.getElem_of_mem Mj
      have:=congrArg (fun l=>l[j]?) hm
      simp only[List.getElem?_map,List.getElem?_eq_getElem hj,List.getElem?_eq_getElem (show j<xs.length by omega),Option.map_some,Option.some.injEq]at this
      refine⟨xs[j]'(by omega),hx _ (List.getElem_mem _),fun _ _=> ?_,fun hf=>by rw[hu]at hf;cases hf⟩
      rw[←this,ej]
      unfold dG dK
      rw[if_pos hi3]
      show _=if (1:Int)=0 then _ else _
      rw[if_neg (by decide)]
    · exact⟨0,by decide,fun _ h=>absurd h hi3,fun _=>rfl⟩
  · exact⟨0,by decide,fun h=>absurd h hu,fun _=>rfl⟩
 obtain⟨v,hv⟩:∃v:Nat→Nat,∀i,v i<4∧(uX r i=true→i<3→s (gY i)=cf (v i))∧(uX r i=false→v i=0):=⟨fun i=>Classical.choose (hex i),fun i=>Classical.choose_spec (hex i)⟩
 obtain⟨n,hn,hnv⟩:=Mg v (fun i=>(hv i).1)
 refine⟨n,iJ.2 ⟨hn,BX.2 fun i hi=> ?_⟩, ?_⟩
 · by_cases hu:uX r i=true
   · exact .inl hu
   · right
     rw[hnv i hi]
     exact(hv i).2.2 (by simpa using hu)
 · rw[e]
   unfold FW cO
   simp only[List.map_map]
   apply List.map_congr_left
   intro b hb
   unfold subst lG
   show _=du s (iI b)
   unfold du iI
   simp only[List.map_map]
   congr 2
   apply List.map_congr_left
   intro x hx
   show cf (AD (o6 n) x)=dK s (dG x)
   unfold AD dG dK
   by_cases h3:x<3
   · rw[if_pos h3,if_pos h3]
     show _=if (1:Int)=0 then _ else _
     rw[if_neg (by decide),hnv x h3]
     exact((hv x).2.1 (rZ.2 ⟨b,hb,hx⟩) h3).symm
   · rw[if_neg h3,if_neg h3]
     rfl
theorem G7{F:Type}{k:Nat}(hk:k≤2){L:List F}(h:L.Nodup):(iA k L).Nodup:=by
 have:k=0∨k=1∨k=2:=by omega
 rcases this with e | e | e<;>subst e
 · simp[iA]
 · show(L.map fun x=>[x]).Pairwise (· ≠ ·)
   rw[List.pairwise_map]
   exact List.Pairwise.imp (fun pD e=>pD (by simpa using e)) h
 · show(L.flatMap fun x=>L.map fun y=>[x,y]).Nodup
   show List.Pairwise (· ≠ ·) _
   rw[List.pairwise_flatMap]
   refine⟨fun x _=> ?_,List.Pairwise.imp ?_ h⟩
   · rw[List.pairwise_map]
     exact List.Pairwise.imp (fun pD e=>pD (by simpa using e)) h
   · intro a b pD x hx y hy e
     subst e
     obtain⟨c,_,rfl⟩:=List.mem_map.1 hx
     obtain⟨d,_,e⟩:=List.mem_map.1 hy
     simp at e
     exact pD e.1.symm
theorem IA{α β:Type}{f:α→Option β}{g:α→β}:∀(l:List α),(∀x,x∈l→f x=some (g x))→l.filterMap f=l.map g
 | [],_=>rfl
 | x::l,h=>by
  rw[List.filterMap_cons_some (h x (by simp)),IA l (fun y hy=>h y (by simp[hy])),List.map_cons]
def Pt(r:bO)(L:List cl):List Nat:=(vs r).filter fun n=>(FW r n).all fun f=>hasB L f
theorem Vf{r:bO}(hr:ub r){L:List cl}(hL:L.Nodup)(hC:∀f,f∈L→Can f)(h:cl):
 lu (cT (cO r)) (iA r.body.length L) h=ib ((Pt r L).map fun n=>subst (o6 n) r.head) h:=by
 have Mt:List.Perm ((iA r.body.length L).filter fun fs=>(gB (cO r) fs).isSome) ((Pt r L).map (FW r)):=by
  rw[List.perm_ext_iff_of_nodup]
  · intro fs
    rw[List.mem_filter,List.mem_map,ya hr.two]
    constructor
    · rintro⟨⟨h1,h2⟩,h3⟩
      obtain⟨x,hx⟩:=Option.isSome_iff_exists.1 h3
      obtain⟨n,hn,e⟩:=My hr (fun f hf=>hC f (h2 f hf)) hx
      refine⟨n, ?_,e⟩
      unfold Pt
      rw[List.mem_filter]
      refine⟨hn, ?_⟩
      rw[e,List.all_eq_true]
      intro f hf
      exact x7.2 (h2 f hf)
    · rintro⟨n,hn,rfl⟩
      unfold Pt at hn
      rw[List.mem_filter,List.all_eq_true]at hn
      refine⟨⟨by simp[FW],fun f hf=>x7.1 (hn.2 f hf)⟩, ?_⟩
      rw[qW hr (iJ.1 hn.1).1]
      rfl
  · exact(G7 hr.two hL).filter _
  · unfold Pt
    rw[List.nodup_iff_pairwise_ne,List.pairwise_map]
    have C6:((vs r).filter fun n=>(FW r n).all fun f=>hasB L f).Nodup:=by
     unfold vs
     exact(List.nodup_range.filter _).filter _
    refine List.Pairwise.imp_of_mem ?_ C6
    intro a b ha hb pD e
    exact pD (QU hr (List.mem_filter.1 ha).1 (List.mem_filter.1 hb).1 e)
 have e1:(iA r.body.length L).filterMap (gB (cO r))=((iA r.body.length L).filter fun fs=>(gB (cO r) fs).isSome).filterMap (gB (cO r)):=by
  rw[List.filterMap_filter]
  congr 1
  funext fs
  cases gB (cO r) fs<;>simp
 have e2:((Pt r L).map (FW r)).filterMap (gB (cO r))=(Pt r L).map fun n=>subst (o6 n) r.head:=by
  rw[List.filterMap_map]
  apply IA
  intro n hn
  unfold Pt at hn
  exact qW hr (iJ.1 (List.mem_filter.1 hn).1).1
 rw[Bc]
 show ib ((iA r.body.length L).filterMap (gB (cO r))) h=_
 rw[e1,←e2]
 exact C3 (Mt.filterMap _) h
end En
/- What axiomkeep's least works out: the least set that holds what is given and what follows. No program here. -/
namespace En
open Ax (cf cu gY dG gM)
def nG(p:Nat)(xs:List Nat):Nat:=if p=0 then xs.getD 0 0 else 4+16*(p-1)+4*xs.getD 0 0+xs.getD 1 0
def uF(i:Nat):cl:=if i<4 then lG 0 [i]else if i<20 then lG 1 [(i-4)/4,(i-4)%4]else lG 2 [(i-20)/4,(i-20)%4]
theorem Ji{xs:List Nat}(h:xs.length=1):∃a,xs=[a]:=by
 match xs,h with
 | [a],_=>exact⟨a,rfl⟩
theorem Al{xs:List Nat}(h:xs.length=2):∃a b,xs=[a,b]:=by
 match xs,h with
 | [a,b],_=>exact⟨a,b,rfl⟩
theorem xg{p:Nat}{xs:List Nat}(h:gM p xs):(p=0∧∃a,xs=[a])∨(p=1∧∃a b,xs=[a,b])∨(p=2∧∃a b,xs=[a,b]):=by
 obtain⟨h1,h2⟩:=h
 have:p=0∨p=1∨p=2:=by omega
 rcases this with rfl | rfl | rfl
 · exact .inl ⟨rfl,Ji (by simpa using h2)⟩
 · exact .inr (.inl ⟨rfl,Al (by simpa using h2)⟩)
 · exact .inr (.inr ⟨rfl,Al (by simpa using h2)⟩)
theorem Hk{p:Nat}{xs:List Nat}(h:gM p xs)(hx:∀x,x∈xs→x<4):nG p xs<36:=by
 rcases xg h with⟨rfl,a,rfl⟩ | ⟨rfl,a,b,rfl⟩ | ⟨rfl,a,b,rfl⟩
 · have:=hx a (by simp)
   simp[nG];omega
 · have:=hx a (by simp)
   have:=hx b (by simp)
   simp[nG];omega
 · have:=hx a (by simp)
   have:=hx b (by simp)
   simp[nG];omega
theorem MT{p:Nat}{xs:List Nat}(h:gM p xs)(hx:∀x,x∈xs→x<4):uF (nG p xs)=lG p xs:=by
 rcases xg h with⟨rfl,a,rfl⟩ | ⟨rfl,a,b,rfl⟩ | ⟨rfl,a,b,rfl⟩
 · have:=hx a (by simp)
   have e:nG 0 [a]=a:=by simp[nG]
   rw[e]
   unfold uF
   rw[if_pos (by omega)]
 · have:=hx a (by simp)
   have:=hx b (by simp)
   have e:nG 1 [a,b]=4+4*a+b:=by simp[nG]
   rw[e]
   unfold uF
   rw[if_neg (by omega),if_pos (by omega),show(4+4*a+b-4)/4=a by omega,show(4+4*a+b-4)%4=b by omega]
 · have:=hx a (by simp)
   have:=hx b (by simp)
   have e:nG 2 [a,b]=20+4*a+b:=by simp[nG]
   rw[e]
   unfold uF
   rw[if_neg (by omega),if_neg (by omega),show(20+4*a+b-20)/4=a by omega,show(20+4*a+b-20)%4=b by omega]
theorem MQ{i:Nat}(h:i<36):Can (uF i):=by
 unfold uF
 split
 · exact⟨0,[i],⟨by decide,rfl⟩,by simp;omega,rfl⟩
 · split
   · exact⟨1,[(i-4)/4,(i-4)%4],⟨by decide,rfl⟩,by simp;omega,rfl⟩
   · exact⟨2,[(i-20)/4,(i-20)%4],⟨by decide,rfl⟩,by simp;omega,rfl⟩
theorem MH{f:cl}(h:Can f):∃i,i<36∧f=uF i:=by
 obtain⟨p,xs,hk,hx,rfl⟩:=h
 exact⟨nG p xs,Hk hk hx,(MT hk hx).symm⟩
theorem Lx{p q:Nat}{xs ys:List Nat}(h1:gM p xs)(h2:gM q ys)(hx:∀x,x∈xs→x<4)(hy:∀x,x∈ys→x<4)(h:lG p xs=lG q ys):p=q∧xs=ys:=by
 unfold lG at h
 simp only[Prod.mk.injEq]at h
 have hp:=tw h1.1 h2.1 h.1
 subst hp
 have hl:xs.length=ys.length:=by rw[h1.2,h2.2]
 exact⟨rfl,lR hx hy (Cj (by simp[hl]) h.2)⟩
theorem tP{i j:Nat}(hi:i<36)(hj:j<36)(h:uF i=uF j):i=j:=by
 have key:∀k,k<36→∃p xs,gM p xs∧(∀x,x∈xs→x<4)∧uF k=lG p xs∧nG p xs=k:=by
  intro k hk
  unfold uF
  split
  · exact⟨0,[k],⟨by decide,rfl⟩,by simp;omega,rfl,by simp[nG]⟩
  · split
    · exact⟨1,_,⟨by decide,rfl⟩,by simp;omega,rfl,by simp[nG];omega⟩
    · exact⟨2,_,⟨by decide,rfl⟩,by simp;omega,rfl,by simp[nG];omega⟩
 obtain⟨p,xs,k1,x1,e1,d1⟩:=key i hi
 obtain⟨q,ys,k2,x2,e2,d2⟩:=key j hj
 rw[e1,e2]at h
 obtain⟨rfl,rfl⟩:=Lx k1 k2 x1 x2 h
 rw[←d1,d2]
def Gx(v:Nat→Nat)(a:NA):Nat:=nG a.1 (a.2.map (AD v))
theorem o8{v:Nat→Nat}(hv:∀i,i<3→v i<4){a:NA}(ha:DS a):gM a.1 (a.2.map (AD v))∧∀x,x∈a.2.map (AD v)→x<4:=by
 refine⟨⟨ha.1.1,by rw[List.length_map];exact ha.1.2⟩, ?_⟩
 intro x hx
 obtain⟨n,hn,rfl⟩:=List.mem_map.1 hx
 have:=ha.2 n hn
 unfold AD
 split
 · rename_i h;exact hv n h
 · omega
theorem oN{v:Nat→Nat}(hv:∀i,i<3→v i<4){a:NA}(ha:DS a):Gx v a<36:=Hk (o8 hv ha).1 (o8 hv ha).2
theorem sP{v:Nat→Nat}(hv:∀i,i<3→v i<4){a:NA}(ha:DS a):uF (Gx v a)=subst v a:=MT (o8 hv ha).1 (o8 hv ha).2
def EW(r:bO)(H:Nat→Bool):List Nat:=(vs r).filter fun n=>r.body.all fun b=>H (Gx (o6 n) b)
def fo(r:bO)(H:Nat→Bool):List Nat:=(EW r H).map fun n=>Gx (o6 n) r.head
def gX(H:Nat→Bool)(l:List Nat):Nat→Bool:=fun i=>H i||decide (i∈l)
def dj(R:List bO)(H:Nat→Bool):Nat→Bool:=R.foldl (fun H r=>gX H (fo r H)) H
def rounds(R:List bO):Nat→(Nat→Bool)→Nat→Bool
 | 0,H=>H
 | n+1,H=>rounds R n (dj R H)
theorem jq:∀(R:List bO) (H:Nat→Bool) (i:Nat),H i=true→dj R H i=true
 | [],_,_,h=>h
 | r::R,H,i,h=>by
  show dj R (gX H (fo r H)) i=true
  exact jq R _ i (by simp[gX,h])
theorem OT{r:bO}{H K:Nat→Bool}(h:∀i,H i=true→K i=true){n:Nat}(hn:n∈EW r H):n∈EW r K:=by
 unfold EW at hn ⊢
 rw[List.mem_filter,List.all_eq_true]at hn ⊢
 exact⟨hn.1,fun b hb=>h _ (hn.2 b hb)⟩
theorem Gv{r:bO}{H K:Nat→Bool}(h:∀i,H i=true→K i=true){i:Nat}(hi:i∈fo r H):i∈fo r K:=by
 obtain⟨n,hn,rfl⟩:=List.mem_map.1 hi
 exact List.mem_map.2 ⟨n,OT h hn,rfl⟩
theorem rl:∀(R:List bO) (H:Nat→Bool) (r:bO),r∈R→∀i,i∈fo r H→dj R H i=true
 | [],_,_,h,_,_=>by cases h
 | q::R,H,r,hr,i,hi=>by
  show dj R (gX H (fo q H)) i=true
  rcases List.mem_cons.1 hr with rfl | hr
  · exact jq R _ i (by simp[gX,hi])
  · exact rl R _ r hr i (Gv (fun j hj=>by simp[gX,hj]) hi)
def nr(R:List bO)(X:Nat→Prop):Prop:=∀r,r∈R→∀n,n∈vs r→(∀b,b∈r.body→X (Gx (o6 n) b))→X (Gx (o6 n) r.head)
theorem om{X:Nat→Prop}:∀(R:List bO) (H:Nat→Bool),nr R X→(∀i,H i=true→X i)→∀i,dj R H i=true→X i
 | [],_,_,h,i,hi=>h i hi
 | q::R,H,hX,h,i,hi=>by
  refine om R (gX H (fo q H)) (fun r hr=>hX r (by simp[hr])) ?_ i hi
  intro j hj
  simp only[gX,Bool.or_eq_true,decide_eq_true_eq]at hj
  rcases hj with hj | hj
  · exact h j hj
  · obtain⟨n,hn,rfl⟩:=List.mem_map.1 hj
    unfold EW at hn
    rw[List.mem_filter,List.all_eq_true]at hn
    exact hX q (by simp) n hn.1 (fun b hb=>h _ (hn.2 b hb))
theorem rR{R:List bO}{X:Nat→Prop}(hX:nr R X):∀(n:Nat) (H:Nat→Bool),(∀i,H i=true→X i)→∀i,rounds R n H i=true→X i
 | 0,_,h,i,hi=>h i hi
 | n+1,H,h,i,hi=>rR hX n _ (om R H hX h) i hi
theorem tq{R:List bO}:∀(n:Nat) (H:Nat→Bool) (i:Nat),H i=true→rounds R n H i=true
 | 0,_,_,h=>h
 | n+1,H,i,h=>tq n _ i (jq R H i h)
def zU(H:Nat→Bool):Nat:=((List.range 36).filter fun i=>H i).length
theorem L6(H:Nat→Bool):zU H≤36:=by
 unfold zU
 have:=List.length_filter_le (fun i=>H i) (List.range 36)
 simpa using this
theorem filter_lt{α:Type}{p q:α→Bool}:∀(l:List α),(∀x,p x=true→q x=true)→(∃x,x∈l∧q x=true∧p x=false)→(l.filter p).length<(l.filter q).length
 | [],_,h=>by obtain⟨x,hx,_⟩:=h;cases hx
 | y::l,hpq,h=>by
  have hle:∀m:List α,(m.filter p).length≤(m.filter q).length:=by
   intro m
   induction m with
   | nil=>simp
   | cons z m ih=>
    rw[List.filter_cons,List.filter_cons]
    by_cases hp:p z=true
    · rw[if_pos hp,if_pos (hpq z hp)];simp;exact ih
    · rw[if_neg hp]
      split
      · simp;omega
      · exact ih
  rw[List.filter_cons,List.filter_cons]
  obtain⟨x,hx,h1,h2⟩:=h
  rcases List.mem_cons.1 hx with rfl | hx
  · rw[if_neg (by rw[h2];decide),if_pos h1]
    have:=hle l
    simp
    omega
  · have ih:=filter_lt l hpq ⟨x,hx,h1,h2⟩
    by_cases hp:p y=true
    · rw[if_pos hp,if_pos (hpq y hp)];simp;exact ih
    · rw[if_neg hp]
      split
      · simp;omega
      · exact ih
theorem uE{R:List bO}(hR:∀H i,36≤i→H i=false→dj R H i=false):∀(n:Nat) (H:Nat→Bool),(∀i,36≤i→H i=false)→36<n+zU H→dj R (rounds R n H)=rounds R n H
 | 0,H,hH,h=>by have:=L6 H;omega
 | n+1,H,hH,h=>by
  by_cases hs:dj R H=H
  · have:∀m,rounds R m H=H:=by
     intro m
     induction m with
     | zero=>rfl
     | succ m ih=>show rounds R m (dj R H)=H;rw[hs,ih]
    rw[this,hs]
  · show dj R (rounds R n (dj R H))=rounds R n (dj R H)
    refine uE hR n _ (fun i hi=>hR H i hi (hH i hi)) ?_
    have:zU H<zU (dj R H):=by
     unfold zU
     apply filter_lt _ (fun i hi=>jq R H i hi)
     apply Classical.byContradiction
     intro hc
     apply hs
     funext i
     by_cases hi:i<36
     · cases h1:H i with
       | true=>exact jq R H i h1
       | false=>
        cases h2:dj R H i with
        | false=>rfl
        | true=>exact absurd ⟨i,by simpa using hi,h2,h1⟩ hc
     · rw[hH i (by omega),hR H i (by omega) (hH i (by omega))]
    omega
end En
/- axiomkeep: written. -/
section
open Go.RowKit
def Dy(x:Nat):ByteArray:=(Ax.dG x).text
def fO(i:Nat)(p:ByteArray)(x:Nat):ByteArray:=(if 0<i then p++⟨#[44]⟩else p)++Dy x
def lp:List Nat→Nat→ByteArray→ByteArray
 | [],_,p=>p
 | x::l,i,p=>lp l (i+1) (fO i p x)
theorem RF{x:Nat}(h:x<3):(⟨#[88,89,90]⟩:ByteArray).extract x (x+1)=Dy x:=by
 have:x=0∨x=1∨x=2:=by omega
 rcases this with rfl | rfl | rfl<;>rfl
theorem Ob{x:Nat}(h:¬x<3):Dy x=Ax.cf (x-3):=by simp[Dy,Ax.dG,h]
theorem CM(x:Nat):(Dy x).size≤2:=by
 unfold Dy Ax.dG
 split
 · unfold Ax.gY;simp only;split<;>decide
 · unfold Ax.cf;simp only;split<;>decide
theorem xE(x:Nat):(Ax.cu x).size≤3:=by unfold Ax.cu;split<;>decide
theorem jA{x n:Nat}(h:x<n):Ax.bk (x:Int) n=x:=by
 unfold Ax.bk
 rw[if_neg (by omega),Int.emod_eq_of_lt (by omega) (by omega)]
 omega
theorem Pa(x:Nat)(h3:¬x<3)(h7:x<7)(N:Int)(hN:N=(x:Int)-3):∀w,Calls Tryz.prog 122 #[.int .i64 N] w fun e w'=>e=.returned (.string (Dy x))∧Below w.heap.size w w':=by
 intro w
 have e:N=((x-3:Nat):Int):=by omega
 rw[e,Ob h3]
 have:=qU ((x-3:Nat):Int) w ⟨by omega,by omega⟩
 rw[jA (by omega)]at this
 exact this
theorem DZ(w:World)(p:Int)(hp:cr p)(b:Nat)(ld:Option Addr)(lc:Nat)(ts:List Nat)(h:w.ownsRow b 3 1 (.slice ld ts.length lc) ts.length (aA ts))(hl:ts.length≤1000)(h7:Hid (∀x,x∈ts→x<7))(R:ByteArray)(HR:Hid (lp ts 0 (Ax.cu (Ax.bk p 3)++⟨#[40]⟩)=R)):
 Calls Tryz.prog 61 #[.int .i64 p,.slice ld ts.length lc] w fun e w'=>e=.returned (.string (R++⟨#[41]⟩))∧Below w.heap.size w w':=by
 have nK:=fun w=>C7 p w hp
 have ux:=xE (Ax.bk p 3)
 generalize Ax.cu (Ax.bk p 3)=P at*
 have tS:Hid (∀w,Calls Tryz.prog 18 #[.int .i64 p] w fun e w'=>e=.returned (.string P)∧Below w.heap.size w w'):=nK
 clear nK
 have hP1:(P++⟨#[40]⟩:ByteArray).size≤10:=by rw[ByteArray.size_append];have:(⟨#[40]⟩:ByteArray).size=1:=rfl;omega
 go_enter Tryz.func61,Tryz.ntmps61
 go_wp2_with (go_at_call 18;refine(tS.out _).mono ?_;rintro e w1 ⟨rfl,a8⟩)
 go_loopw [5,6] (fun sv iv wr=>∃(i:Nat) (q:ByteArray),i≤ts.length∧sv=.string q∧iv=.int .i64 i∧Below w.heap.size w wr∧q.size≤10+10*i∧lp (ts.drop i) i q=R) (fun _ iv _=>ts.length-(intOf iv).toNat)
 case atStart=>exact⟨0,_,Nat.zero_le _,rfl,rfl,a8,by omega,HR.out⟩
 case round=>
  obtain⟨i,q,hi,rfl,rfl,aU,F7,hr⟩:=hrel
  have Jf:Hid (lp (ts.drop i) i q=R):=hr
  clear hr HR
  have cE:=aU.size
  by_cases aE:i<ts.length
  · obtain⟨g,rfl,hg,hc,bH⟩:=aD (ae h aU) (by omega)
    have c0:=bH _ _ (rI ts i aE)
    clear bH
    have hx7:=h7.out _ (List.getElem_mem aE)
    have fl:ts.drop i=ts[i]::ts.drop (i+1):=List.drop_eq_getElem_cons aE
    rw[fl]at Jf
    clear fl
    generalize ts[i]=x at*
    have HN:Hid (lp (ts.drop (i+1)) (i+1) (fO i q x)=R):=Jf
    clear Jf
    have hxs:=CM x
    have Ci:(⟨#[44]⟩:ByteArray).size=1:=rfl
    have RW:Hid ((fO i q x).size≤10+10*(i+1)):=by
     show(fO i q x).size≤_
     unfold fO
     split
     · rw[ByteArray.size_append,ByteArray.size_append];omega
     · rw[ByteArray.size_append];omega
    have hq1:(q++⟨#[44]⟩:ByteArray).size≤11+10*i:=by rw[ByteArray.size_append];omega
    by_cases hx:x<3
    · have hxb:decide ((x:Int)<3)=true:=by simp;omega
      have hex:=RF hx
      by_cases h0:0<i
      · have h0b:decide ((0:Int)<(i:Int))=true:=by simp;omega
        have HW:Hid (fO i q x=q++⟨#[44]⟩++Dy x):=by simp[Hid,fO,h0]
        go_wp2_with fail
        go_region
        all_goals (go_wp2_with fail)
        all_goals (go_roundw;(case rel=>exact⟨i+1,fO i q x,by omega,by rw[HW.out,←hex],by go_num,aU.drew,RW.out,HN.out⟩);(case measure=>simp[intOf];omega))
      · have h0b:decide ((0:Int)<(i:Int))=false:=by simp;omega
        have HW:Hid (fO i q x=q++Dy x):=by simp[Hid,fO,h0]
        go_wp2_with fail
        go_region
        all_goals (go_wp2_with fail)
        all_goals (go_roundw;(case rel=>exact⟨i+1,fO i q x,by omega,by rw[HW.out,←hex],by go_num,aU.drew,RW.out,HN.out⟩);(case measure=>simp[intOf];omega))
    · have hxb:decide ((x:Int)<3)=false:=by simp;omega
      have ga:=Pa x hx hx7 ((x:Int)-3) rfl
      have yM:Hid (∀w,Calls Tryz.prog 122 #[.int .i64 ((x:Int)-3)] w fun e w'=>e=.returned (.string (Dy x))∧Below w.heap.size w w'):=ga
      clear ga
      by_cases h0:0<i
      · have h0b:decide ((0:Int)<(i:Int))=true:=by simp;omega
        have HW:Hid (fO i q x=q++⟨#[44]⟩++Dy x):=by simp[Hid,fO,h0]
        go_wp2_with (go_at_call 122;refine(yM.out _).mono ?_;rintro e w2 ⟨rfl,cM⟩)
        go_roundw
        case rel=>exact⟨i+1,fO i q x,by omega,by rw[HW.out],by go_num,aU.trans (cM.mono cE),RW.out,HN.out⟩
        case measure=>simp[intOf];omega
      · have h0b:decide ((0:Int)<(i:Int))=false:=by simp;omega
        have HW:Hid (fO i q x=q++Dy x):=by simp[Hid,fO,h0]
        go_wp2_with (go_at_call 122;refine(yM.out _).mono ?_;rintro e w2 ⟨rfl,cM⟩)
        go_roundw
        case rel=>exact⟨i+1,fO i q x,by omega,by rw[HW.out],by go_num,aU.trans (cM.mono cE),RW.out,HN.out⟩
        case measure=>simp[intOf];omega
  · have YJ:q=R:=by
     have:=Jf.out
     rw[List.drop_eq_nil_of_le (by omega)]at this
     exact this
    subst YJ
    clear Jf
    go_wp2_with fail
    go_ret
    exact⟨rfl,aU⟩
end
/- axiomkeep: what written writes, as tokens. No program here. -/
section
def dw(l:List Ax.EI):List UInt8:=l.flatMap fun x=>x.2.data.toList
theorem fW(l l':List Ax.EI):dw (l++l')=dw l++dw l':=by simp[dw]
theorem gI(x:Ax.EI)(l:List Ax.EI):dw (x::l)=x.2.data.toList++dw l:=by simp[dw]
theorem C0:∀(l:List Nat) (i:Nat) (p:ByteArray),0<i→(lp l i p).data.toList=p.data.toList++l.flatMap fun x=>44::(Dy x).data.toList
 | [],i,p,_=>by simp[lp]
 | x::l,i,p,h=>by
  rw[lp,C0 l (i+1) _ (by omega)]
  simp[fO,h,ByteArray.data_append]
theorem rP:∀(l:List Nat) (x:Nat),dw (Ax.db ((x::l).map Ax.dG))=(Dy x).data.toList++l.flatMap fun x=>44::(Dy x).data.toList
 | [],x=>by simp[Ax.db,dw,Ax.tI,Dy]
 | y::l,x=>by
  have ih:=rP l y
  rw[List.map_cons]at ih
  rw[List.map_cons,List.map_cons,Ax.db,gI,gI,ih]
  simp[Ax.tI,Ax.lI,Dy]
theorem pM(p:Nat)(ts:List Nat)(h:ts≠[]):(lp ts 0 (Ax.cu p++⟨#[40]⟩)++⟨#[41]⟩:ByteArray).data.toList=dw (Ax.dv (Ax.jH p ts)):=by
 cases ts with
 | nil=>exact absurd rfl h
 | cons x l=>
  rw[ByteArray.data_append,Array.toList_append,lp,C0 l 1 _ (by omega)]
  unfold Ax.dv Ax.jH
  simp only
  rw[gI,gI,fW,rP]
  simp[fO,ByteArray.data_append,dw]
end
/- axiomkeep: body. -/
section
open Go.RowKit
theorem MJ(w:World)(p a b:Int)(ad:Addr)(n c:Nat)(hn:n≤c)(hc:c≤maxLen):Calls Tryz.prog 63 #[.agg #[.int .i64 p,.int .i64 a,.int .i64 b,.slice (some ad) n c]] w fun e w'=>e=.returned (.slice (some ad) (min n 2) c)∧Below w.heap.size w w':=by
 have hm:maxLen=9223372036854775807:=rfl
 by_cases h2:2<n
 · have hb:decide ((2:Int)<(n:Int))=true:=by simp;omega
   rw[Nat.min_eq_right (by omega)]
   go_enter Tryz.func63,Tryz.ntmps63
   go_wp2_with fail
   go_ret
   exact⟨rfl,(Below.refl _ _).alloc (Nat.le_refl _) _⟩
 · have hb:decide ((2:Int)<(n:Int))=false:=by simp;omega
   rw[Nat.min_eq_left (by omega)]
   go_enter Tryz.func63,Tryz.ntmps63
   go_wp2_with fail
   go_ret
   exact⟨rfl,(Below.refl _ _).alloc (Nat.le_refl _) _⟩
theorem Jg(w:World)(p a b:Int)(c:Nat):Calls Tryz.prog 63 #[.agg #[.int .i64 p,.int .i64 a,.int .i64 b,.slice none 0 c]] w fun e w'=>e=.returned (.slice none 0 c)∧Below w.heap.size w w':=by
 go_enter Tryz.func63,Tryz.ntmps63
 go_wp2_with fail
 go_ret
 exact⟨rfl,(Below.refl _ _).alloc (Nat.le_refl _) _⟩
end
end Go.Proofs.YtdmicblafmhflaaGreatDoor
