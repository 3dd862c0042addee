/- Rules and facts in numbers, as axiomkeep's laws have them. No program here. -/
import Derived.Test.YtdmicblafmhflaaGreatDoorC08
import Derived.Test.YtdmicblafmhflaaGreatDoorC03
set_option linter.unusedSimpArgs false
set_option linter.unusedVariables false
set_option maxHeartbeats 4000000
set_option maxRecDepth 100000
namespace Go.Proofs.YtdmicblafmhflaaGreatDoor
namespace En
open Ax (bZ cq iF dG gZ)
abbrev NA:=Nat×List Nat
structure bN where
 head:NA
 body:List NA
def Es(a:NA):Prop:=gZ a.1 a.2∧∀n,n∈a.2→n<7
structure tT(r:bN):Prop where
 head:Es r.head
 body:∀b,b∈r.body→Es b
 two:r.body.length≤2
 safe:∀n,n∈r.head.2→n<3→∃b,b∈r.body∧n∈b.2
def iQ(a:NA):Ax.Atom:=⟨0,cq a.1,a.2.map dG⟩
def cR(r:bN):Ax.aP:=⟨iQ r.head,r.body.map iQ⟩
def lD(p:Nat)(xs:List Nat):bE:=(cq p,pad (xs.map bZ))
def AF(v:Nat→Nat)(n:Nat):Nat:=if n<3 then v n else n-3
def subst(v:Nat→Nat)(a:NA):bE:=lD a.1 (a.2.map (AF v))
def sig(v:Nat→Nat):ByteArray→ByteArray:=fun y=>if y=iF 0 then bZ (v 0)else if y=iF 1 then bZ (v 1)else if y=iF 2 then bZ (v 2)else ⟨#[97]⟩
theorem pa(n:Nat):bZ n≠ee:=by
 unfold bZ ee
 split<;>decide
theorem Va(v:Nat→Nat)(y:ByteArray):sig v y≠ee:=by
 unfold sig
 split
 · exact pa _
 · split
   · exact pa _
   · split
     · exact pa _
     · decide
theorem Rp(v:Nat→Nat){n:Nat}(h:n<3):sig v (iF n)=bZ (v n):=by
 have:n=0∨n=1∨n=2:=by omega
 have h01:¬iF 1=iF 0:=by decide
 have h02:¬iF 2=iF 0:=by decide
 have h12:¬iF 2=iF 1:=by decide
 rcases this with rfl | rfl | rfl<;>simp[sig,h01,h02,h12]
theorem Zd{n m:Nat}(hn:n<3)(hm:m<3)(h:iF n=iF m):n=m:=by
 have a:n=0∨n=1∨n=2:=by omega
 have b:m=0∨m=1∨m=2:=by omega
 rcases a with rfl | rfl | rfl<;>rcases b with rfl | rfl | rfl<;>first | rfl | (exfalso;revert h;decide)
theorem JO{n m:Nat}(hn:n<4)(hm:m<4)(h:bZ n=bZ m):n=m:=by
 have a:n=0∨n=1∨n=2∨n=3:=by omega
 have b:m=0∨m=1∨m=2∨m=3:=by omega
 rcases a with rfl | rfl | rfl | rfl<;>rcases b with rfl | rfl | rfl | rfl<;>first | rfl | (exfalso;revert h;decide)
theorem tS{n m:Nat}(hn:n<3)(hm:m<3)(h:cq n=cq m):n=m:=by
 have a:n=0∨n=1∨n=2:=by omega
 have b:m=0∨m=1∨m=2:=by omega
 rcases a with rfl | rfl | rfl<;>rcases b with rfl | rfl | rfl<;>first | rfl | (exfalso;revert h;decide)
theorem OV(v:Nat→Nat)(n:Nat):dD (sig v) (dG n)=bZ (AF v n):=by
 unfold dG AF
 by_cases h:n<3
 · rw[if_pos h,if_pos h]
   show(if (1:Int)=0 then iF n else sig v (iF n))=_
   rw[if_neg (by decide),Rp v h]
 · rw[if_neg h,if_neg h]
   rfl
theorem Aw(v:Nat→Nat)(a:NA):dj (sig v) (iQ a)=subst v a:=by
 unfold dj subst lD iQ
 simp only[List.map_map]
 have e:List.map (dD (sig v)∘dG) a.2=List.map (bZ∘AF v) a.2:=List.map_congr_left fun n _=>OV v n
 rw[e]
theorem Cx{a b:List ByteArray}(hl:a.length=b.length)(h:pad a=pad b):a=b:=by
 have:=congrArg (fun l=>l.take a.length) h
 simp only[wh]at this
 rw[hl,wh]at this
 exact this
theorem lS:∀{a b:List Nat},(∀n,n∈a→n<4)→(∀n,n∈b→n<4)→a.map bZ=b.map bZ→a=b
 | [],[],_,_,_=>rfl
 | [],y::b,_,_,h=>by simp at h
 | x::a,[],_,_,h=>by simp at h
 | x::a,y::b,ha,hb,h=>by
  simp only[List.map_cons,List.cons.injEq]at h
  rw[JO (ha x (by simp)) (hb y (by simp)) h.1,lS (fun n hn=>ha n (by simp[hn])) (fun n hn=>hb n (by simp[hn])) h.2]
def Can(f:bE):Prop:=∃p xs,gZ p xs∧(∀x,x∈xs→x<4)∧f=lD p xs
theorem OA{f:bE}(hf:Can f){a:NA}(ha:Es a):Aa (iQ a) f:=by
 obtain⟨p,xs,hk,hx,rfl⟩:=hf
 intro hp
 have F4:a.1=p:=tS ha.1.1 hk.1 hp
 refine⟨xs.map bZ, ?_, ?_,rfl⟩
 · have h1:=ha.1.2
   have h2:=hk.2
   rw[F4]at h1
   simp[iQ,h1,h2]
 · intro n hn
   obtain⟨x,_,rfl⟩:=List.mem_map.1 hn
   exact pa x
theorem BG(ts:List Nat):qp (ts.map dG):=by
 intro t ht hk
 obtain⟨n,_,rfl⟩:=List.mem_map.1 ht
 unfold dG at hk ⊢
 split
 · rename_i h;rw[if_pos h]at hk;cases hk
 · exact pa _
theorem Ld{v:Nat→Nat}(hv:∀i,i<3→v i<4){a:NA}(ha:Es a):Can (subst v a):=by
 refine⟨a.1,a.2.map (AF v),⟨ha.1.1,by rw[List.length_map];exact ha.1.2⟩, ?_,rfl⟩
 intro x hx
 obtain⟨n,hn,rfl⟩:=List.mem_map.1 hx
 unfold AF
 have:=ha.2 n hn
 split
 · rename_i h;exact hv n h
 · omega
theorem u4{r:bN}(h:tT r):Safe (cR r):=by
 intro t ht hk
 obtain⟨n,hn,rfl⟩:=List.mem_map.1 ht
 have h3:n<3:=by
  unfold dG at hk
  split at hk
  · assumption
  · exact absurd rfl hk
 obtain⟨b,hb,hm⟩:=h.safe n hn h3
 exact⟨iQ b,List.mem_map.2 ⟨b,hb,rfl⟩,dG n,List.mem_map.2 ⟨n,hm,rfl⟩,hk,rfl⟩
theorem qS(r:bN):DO (cR r):=by
 intro a ha
 obtain⟨b,_,rfl⟩:=List.mem_map.1 ha
 exact BG b.2
end En
/- As many tuples of facts as values of the variables. No program here. -/
namespace En
open Ax (bZ cq iF dG gZ)
def pI(n:Nat):Nat→Nat:=fun i=>match i with | 0=>n%4 | 1=>n/4%4 | _=>n/16
theorem jg{n:Nat}(h:n<64)(i:Nat):pI n i<4:=by
 match i with
 | 0=>show n%4<4;omega
 | 1=>show n/4%4<4;omega
 | (k+2)=>show n/16<4;omega
theorem Ru{n m:Nat}(h:∀i,i<3→pI n i=pI m i):n=m:=by
 have h0:n%4=m%4:=h 0 (by decide)
 have h1:n/4%4=m/4%4:=h 1 (by decide)
 have h2:n/16=m/16:=h 2 (by decide)
 omega
theorem MJ(v:Nat→Nat)(h:∀i,v i<4):∃n,n<64∧∀i,i<3→pI n i=v i:=by
 have h0:=h 0
 have h1:=h 1
 have h2:=h 2
 refine⟨v 0+4*v 1+16*v 2,by omega, ?_⟩
 intro i hi
 have:i=0∨i=1∨i=2:=by omega
 rcases this with rfl | rfl | rfl
 · show(v 0+4*v 1+16*v 2)%4=v 0;omega
 · show(v 0+4*v 1+16*v 2)/4%4=v 1;omega
 · show(v 0+4*v 1+16*v 2)/16=v 2;omega
def vf(r:bN)(i:Nat):Bool:=r.body.any fun b=>decide (i∈b.2)
theorem ru{r:bN}{i:Nat}:vf r i=true↔∃b,b∈r.body∧i∈b.2:=by simp[vf]
def okv(r:bN)(n:Nat):Bool:=(vf r 0||decide (pI n 0=0))&&(vf r 1||decide (pI n 1=0))&&(vf r 2||decide (pI n 2=0))
theorem BU{r:bN}{n:Nat}:okv r n=true↔∀i,i<3→vf r i=true∨pI n i=0:=by
 unfold okv
 simp only[Bool.and_eq_true,Bool.or_eq_true,decide_eq_true_eq]
 constructor
 · rintro⟨⟨h0,h1⟩,h2⟩ i hi
   have:i=0∨i=1∨i=2:=by omega
   rcases this with rfl | rfl | rfl
   · exact h0
   · exact h1
   · exact h2
 · intro h
   exact⟨⟨h 0 (by decide),h 1 (by decide)⟩,h 2 (by decide)⟩
def vs(r:bN):List Nat:=(List.range 64).filter (okv r)
def Hv(r:bN)(n:Nat):List bE:=r.body.map (subst (pI n))
theorem jd{r:bN}{n:Nat}:n∈vs r↔n<64∧okv r n=true:=by simp[vs]
theorem Dy{v u:Nat→Nat}{b:NA}(hb:Es b)(hv:∀i,i<3→v i<4)(hu:∀i,i<3→u i<4)(h:subst v b=subst u b):∀i,i∈b.2→AF v i=AF u i:=by
 have aC:∀(w:Nat→Nat),(∀i,i<3→w i<4)→∀n,n∈b.2.map (AF w)→n<4:=by
  intro w hw n hn
  obtain⟨x,hx,rfl⟩:=List.mem_map.1 hn
  have:=hb.2 x hx
  unfold AF
  split
  · rename_i h;exact hw x h
  · omega
 unfold subst lD at h
 have h2:=Cx (by simp) (Prod.mk.inj h).2
 have h3:=lS (aC v hv) (aC u hu) h2
 exact List.map_inj_left.1 h3
theorem QH{r:bN}(hr:tT r){n m:Nat}(hn:n∈vs r)(hm:m∈vs r)(h:Hv r n=Hv r m):n=m:=by
 obtain⟨n1,n2⟩:=jd.1 hn
 obtain⟨m1,m2⟩:=jd.1 hm
 apply Ru
 intro i hi
 rcases BU.1 n2 i hi with hu | h0
 · obtain⟨b,hb,Mv⟩:=ru.1 hu
   have:=Dy (hr.body b hb) (fun i _=>jg n1 i) (fun i _=>jg m1 i) (List.map_inj_left.1 h b hb) i Mv
   unfold AF at this
   rwa [if_pos hi,if_pos hi]at this
 · rcases BU.1 m2 i hi with hu | h1
   · obtain⟨b,hb,Mv⟩:=ru.1 hu
     have:=Dy (hr.body b hb) (fun i _=>jg n1 i) (fun i _=>jg m1 i) (List.map_inj_left.1 h b hb) i Mv
     unfold AF at this
     rwa [if_pos hi,if_pos hi]at this
   · rw[h0,h1]
theorem DV{r:bN}(hr:tT r){fs:List bE}(hf:∀f,f∈fs→Can f):∀x,x∈(cR r).body.zip fs→Aa x.1 x.2:=by
 intro x hx
 obtain⟨h1,h2⟩:=List.of_mem_zip hx
 obtain⟨b,hb,e⟩:=List.mem_map.1 h1
 rw[←e]
 exact OA (hf _ h2) (hr.body b hb)
theorem qP{r:bN}(hr:tT r){n:Nat}(hn:n<64):gM (cR r) (Hv r n)=some (subst (pI n) r.head):=by
 have hc:∀f,f∈Hv r n→Can f:=by
  intro f hf
  obtain⟨b,hb,rfl⟩:=List.mem_map.1 hf
  exact Ld (fun i _=>jg hn i) (hr.body b hb)
 rw[A5 (u4 hr) (qS r) (DV hr hc)]
 refine⟨sig (pI n),Va _, ?_,(Aw _ _).symm⟩
 unfold Hv cR
 simp only[List.map_map]
 exact List.map_congr_left fun b _=>(Aw _ _).symm
theorem Nv{r:bN}(hr:tT r){fs:List bE}(hf:∀f,f∈fs→Can f){h:bE}(hi:gM (cR r) fs=some h):∃n,n∈vs r∧Hv r n=fs:=by
 rw[A5 (u4 hr) (qS r) (DV hr hf)]at hi
 obtain⟨s,hs,e,_⟩:=hi
 have vK:∀b,b∈r.body→∃xs:List Nat,xs.length=b.2.length∧(∀x,x∈xs→x<4)∧b.2.map (fun n=>dD s (dG n))=xs.map bZ:=by
  intro b hb
  have hm:dj s (iQ b)∈fs:=by
   rw[e]
   exact List.mem_map.2 ⟨iQ b,List.mem_map.2 ⟨b,hb,rfl⟩,rfl⟩
  obtain⟨p,xs,hk,hx,VA⟩:=hf _ hm
  unfold dj lD iQ at VA
  simp only[List.map_map,Prod.mk.injEq]at VA
  have hp:=tS (hr.body b hb).1.1 hk.1 VA.1
  have hl:xs.length=b.2.length:=by
   have h1:=(hr.body b hb).1.2
   have h2:=hk.2
   rw[hp]at h1
   omega
  refine⟨xs,hl,hx, ?_⟩
  exact Cx (by simp[hl]) VA.2
 have hex:∀i,∃x,x<4∧(vf r i=true→i<3→s (iF i)=bZ x)∧(vf r i=false→x=0):=by
  intro i
  by_cases hu:vf r i=true
  · by_cases hi3:i<3
    · obtain⟨b,hb,Mv⟩:=ru.1 hu
      obtain⟨xs,hl,hx,hm⟩:=vK b hb
      obtain⟨j,hj,ej⟩:=List.getElem_of_mem Mv
      have:=congrArg (fun l=>l[j]?) hm
      simp only[List.getElem?_map,List.getElem?_eq_getElem hj,List.getElem?_eq_getElem (show j<xs.length by omega),Option.map_some,Option.some.injEq]at this
      refine⟨xs[j]'(by omega),hx _ (List.getElem_mem _),fun _ _=> ?_,fun hf=>by rw[hu]at hf;cases hf⟩
      rw[←this,ej]
      unfold dG dD
      rw[if_pos hi3]
      show _=if (1:Int)=0 then _ else _
      rw[if_neg (by decide)]
    · exact⟨0,by decide,fun _ h=>absurd h hi3,fun _=>rfl⟩
  · exact⟨0,by decide,fun h=>absurd h hu,fun _=>rfl⟩
 obtain⟨v,hv⟩:∃v:Nat→Nat,∀i,v i<4∧(vf r i=true→i<3→s (iF i)=bZ (v i))∧(vf r i=false→v i=0):=⟨fun i=>Classical.choose (hex i),fun i=>Classical.choose_spec (hex i)⟩
 obtain⟨n,hn,hnv⟩:=MJ v (fun i=>(hv i).1)
 refine⟨n,jd.2 ⟨hn,BU.2 fun i hi=> ?_⟩, ?_⟩
 · by_cases hu:vf r i=true
   · exact .inl hu
   · right
     rw[hnv i hi]
     exact(hv i).2.2 (by simpa using hu)
 · rw[e]
   unfold Hv cR
   simp only[List.map_map]
   apply List.map_congr_left
   intro b hb
   unfold subst lD
   show _=dj s (iQ b)
   unfold dj iQ
   simp only[List.map_map]
   congr 2
   apply List.map_congr_left
   intro x hx
   show bZ (AF (pI n) x)=dD s (dG x)
   unfold AF dG dD
   by_cases h3:x<3
   · rw[if_pos h3,if_pos h3]
     show _=if (1:Int)=0 then _ else _
     rw[if_neg (by decide),hnv x h3]
     exact((hv x).2.1 (ru.2 ⟨b,hb,hx⟩) h3).symm
   · rw[if_neg h3,if_neg h3]
     rfl
theorem Ie{F:Type}{k:Nat}(hk:k≤2){L:List F}(h:L.Nodup):(fX k L).Nodup:=by
 have:k=0∨k=1∨k=2:=by omega
 rcases this with e | e | e<;>subst e
 · simp[fX]
 · show(L.map fun x=>[x]).Pairwise (· ≠ ·)
   rw[List.pairwise_map]
   exact List.Pairwise.imp (fun pS e=>pS (by simpa using e)) h
 · show(L.flatMap fun x=>L.map fun y=>[x,y]).Nodup
   show List.Pairwise (· ≠ ·) _
   rw[List.pairwise_flatMap]
   refine⟨fun x _=> ?_,List.Pairwise.imp ?_ h⟩
   · rw[List.pairwise_map]
     exact List.Pairwise.imp (fun pS e=>pS (by simpa using e)) h
   · intro a b pS x hx y hy e
     subst e
     obtain⟨c,_,rfl⟩:=List.mem_map.1 hx
     obtain⟨d,_,e⟩:=List.mem_map.1 hy
     simp at e
     exact pS e.1.symm
theorem II{α β:Type}{f:α→Option β}{g:α→β}:∀(l:List α),(∀x,x∈l→f x=some (g x))→l.filterMap f=l.map g
 | [],_=>rfl
 | x::l,h=>by
  rw[List.filterMap_cons_some (h x (by simp)),II l (fun y hy=>h y (by simp[hy])),List.map_cons]
def PY(r:bN)(L:List bE):List Nat:=(vs r).filter fun n=>(Hv r n).all fun f=>hasB L f
theorem V4{r:bN}(hr:tT r){L:List bE}(hL:L.Nodup)(hC:∀f,f∈L→Can f)(h:bE):
 jG (cp (cR r)) (fX r.body.length L) h=iy ((PY r L).map fun n=>subst (pI n) r.head) h:=by
 have OK:List.Perm ((fX r.body.length L).filter fun fs=>(gM (cR r) fs).isSome) ((PY r L).map (Hv r)):=by
  rw[List.perm_ext_iff_of_nodup]
  · intro fs
    rw[List.mem_filter,List.mem_map,yG hr.two]
    constructor
    · rintro⟨⟨h1,h2⟩,h3⟩
      obtain⟨x,hx⟩:=Option.isSome_iff_exists.1 h3
      obtain⟨n,hn,e⟩:=Nv hr (fun f hf=>hC f (h2 f hf)) hx
      refine⟨n, ?_,e⟩
      unfold PY
      rw[List.mem_filter]
      refine⟨hn, ?_⟩
      rw[e,List.all_eq_true]
      intro f hf
      exact yy.2 (h2 f hf)
    · rintro⟨n,hn,rfl⟩
      unfold PY at hn
      rw[List.mem_filter,List.all_eq_true]at hn
      refine⟨⟨by simp[Hv],fun f hf=>yy.1 (hn.2 f hf)⟩, ?_⟩
      rw[qP hr (jd.1 hn.1).1]
      rfl
  · exact(Ie hr.two hL).filter _
  · unfold PY
    rw[List.nodup_iff_pairwise_ne,List.pairwise_map]
    have vz:((vs r).filter fun n=>(Hv r n).all fun f=>hasB L f).Nodup:=by
     unfold vs
     exact(List.nodup_range.filter _).filter _
    refine List.Pairwise.imp_of_mem ?_ vz
    intro a b ha hb pS e
    exact pS (QH hr (List.mem_filter.1 ha).1 (List.mem_filter.1 hb).1 e)
 have e1:(fX r.body.length L).filterMap (gM (cR r))=((fX r.body.length L).filter fun fs=>(gM (cR r) fs).isSome).filterMap (gM (cR r)):=by
  rw[List.filterMap_filter]
  congr 1
  funext fs
  cases gM (cR r) fs<;>simp
 have e2:((PY r L).map (Hv r)).filterMap (gM (cR r))=(PY r L).map fun n=>subst (pI n) r.head:=by
  rw[List.filterMap_map]
  apply II
  intro n hn
  unfold PY at hn
  exact qP hr (jd.1 (List.mem_filter.1 hn).1).1
 rw[B7]
 show iy ((fX r.body.length L).filterMap (gM (cR r))) h=_
 rw[e1,←e2]
 exact Dv (OK.filterMap _) h
end En
/- What axiomkeep's least works out: the least set that holds what is given and what follows. No program here. -/
namespace En
open Ax (bZ cq iF dG gZ)
def mZ(p:Nat)(xs:List Nat):Nat:=if p=0 then xs.getD 0 0 else 4+16*(p-1)+4*xs.getD 0 0+xs.getD 1 0
def uF(i:Nat):bE:=if i<4 then lD 0 [i]else if i<20 then lD 1 [(i-4)/4,(i-4)%4]else lD 2 [(i-20)/4,(i-20)%4]
theorem Lq{xs:List Nat}(h:xs.length=1):∃a,xs=[a]:=by
 match xs,h with
 | [a],_=>exact⟨a,rfl⟩
theorem AU{xs:List Nat}(h:xs.length=2):∃a b,xs=[a,b]:=by
 match xs,h with
 | [a,b],_=>exact⟨a,b,rfl⟩
theorem wy{p:Nat}{xs:List Nat}(h:gZ p xs):(p=0∧∃a,xs=[a])∨(p=1∧∃a b,xs=[a,b])∨(p=2∧∃a b,xs=[a,b]):=by
 obtain⟨h1,h2⟩:=h
 have:p=0∨p=1∨p=2:=by omega
 rcases this with rfl | rfl | rfl
 · exact .inl ⟨rfl,Lq (by simpa using h2)⟩
 · exact .inr (.inl ⟨rfl,AU (by simpa using h2)⟩)
 · exact .inr (.inr ⟨rfl,AU (by simpa using h2)⟩)
theorem Jp{p:Nat}{xs:List Nat}(h:gZ p xs)(hx:∀x,x∈xs→x<4):mZ p xs<36:=by
 rcases wy h with⟨rfl,a,rfl⟩ | ⟨rfl,a,b,rfl⟩ | ⟨rfl,a,b,rfl⟩
 · have:=hx a (by simp)
   simp[mZ];omega
 · have:=hx a (by simp)
   have:=hx b (by simp)
   simp[mZ];omega
 · have:=hx a (by simp)
   have:=hx b (by simp)
   simp[mZ];omega
theorem M6{p:Nat}{xs:List Nat}(h:gZ p xs)(hx:∀x,x∈xs→x<4):uF (mZ p xs)=lD p xs:=by
 rcases wy h with⟨rfl,a,rfl⟩ | ⟨rfl,a,b,rfl⟩ | ⟨rfl,a,b,rfl⟩
 · have:=hx a (by simp)
   have e:mZ 0 [a]=a:=by simp[mZ]
   rw[e]
   unfold uF
   rw[if_pos (by omega)]
 · have:=hx a (by simp)
   have:=hx b (by simp)
   have e:mZ 1 [a,b]=4+4*a+b:=by simp[mZ]
   rw[e]
   unfold uF
   rw[if_neg (by omega),if_pos (by omega),show(4+4*a+b-4)/4=a by omega,show(4+4*a+b-4)%4=b by omega]
 · have:=hx a (by simp)
   have:=hx b (by simp)
   have e:mZ 2 [a,b]=20+4*a+b:=by simp[mZ]
   rw[e]
   unfold uF
   rw[if_neg (by omega),if_neg (by omega),show(20+4*a+b-20)/4=a by omega,show(20+4*a+b-20)%4=b by omega]
theorem Nc{i:Nat}(h:i<36):Can (uF i):=by
 unfold uF
 split
 · exact⟨0,[i],⟨by decide,rfl⟩,by simp;omega,rfl⟩
 · split
   · exact⟨1,[(i-4)/4,(i-4)%4],⟨by decide,rfl⟩,by simp;omega,rfl⟩
   · exact⟨2,[(i-20)/4,(i-20)%4],⟨by decide,rfl⟩,by simp;omega,rfl⟩
theorem tm{f:bE}(h:Can f):∃i,i<36∧f=uF i:=by
 obtain⟨p,xs,hk,hx,rfl⟩:=h
 exact⟨mZ p xs,Jp hk hx,(M6 hk hx).symm⟩
theorem Ju{p q:Nat}{xs ys:List Nat}(h1:gZ p xs)(h2:gZ q ys)(hx:∀x,x∈xs→x<4)(hy:∀x,x∈ys→x<4)(h:lD p xs=lD q ys):p=q∧xs=ys:=by
 unfold lD at h
 simp only[Prod.mk.injEq]at h
 have hp:=tS h1.1 h2.1 h.1
 subst hp
 have hl:xs.length=ys.length:=by rw[h1.2,h2.2]
 exact⟨rfl,lS hx hy (Cx (by simp[hl]) h.2)⟩
theorem CI{i j:Nat}(hi:i<36)(hj:j<36)(h:uF i=uF j):i=j:=by
 have key:∀k,k<36→∃p xs,gZ p xs∧(∀x,x∈xs→x<4)∧uF k=lD p xs∧mZ p xs=k:=by
  intro k hk
  unfold uF
  split
  · exact⟨0,[k],⟨by decide,rfl⟩,by simp;omega,rfl,by simp[mZ]⟩
  · split
    · exact⟨1,_,⟨by decide,rfl⟩,by simp;omega,rfl,by simp[mZ];omega⟩
    · exact⟨2,_,⟨by decide,rfl⟩,by simp;omega,rfl,by simp[mZ];omega⟩
 obtain⟨p,xs,k1,x1,e1,d1⟩:=key i hi
 obtain⟨q,ys,k2,x2,e2,d2⟩:=key j hj
 rw[e1,e2]at h
 obtain⟨rfl,rfl⟩:=Ju k1 k2 x1 x2 h
 rw[←d1,d2]
def GC(v:Nat→Nat)(a:NA):Nat:=mZ a.1 (a.2.map (AF v))
theorem pB{v:Nat→Nat}(hv:∀i,i<3→v i<4){a:NA}(ha:Es a):gZ a.1 (a.2.map (AF v))∧∀x,x∈a.2.map (AF v)→x<4:=by
 refine⟨⟨ha.1.1,by rw[List.length_map];exact ha.1.2⟩, ?_⟩
 intro x hx
 obtain⟨n,hn,rfl⟩:=List.mem_map.1 hx
 have:=ha.2 n hn
 unfold AF
 split
 · rename_i h;exact hv n h
 · omega
theorem oB{v:Nat→Nat}(hv:∀i,i<3→v i<4){a:NA}(ha:Es a):GC v a<36:=Jp (pB hv ha).1 (pB hv ha).2
theorem tP{v:Nat→Nat}(hv:∀i,i<3→v i<4){a:NA}(ha:Es a):uF (GC v a)=subst v a:=M6 (pB hv ha).1 (pB hv ha).2
def GG(r:bN)(H:Nat→Bool):List Nat:=(vs r).filter fun n=>r.body.all fun b=>H (GC (pI n) b)
def gO(r:bN)(H:Nat→Bool):List Nat:=(GG r H).map fun n=>GC (pI n) r.head
def ix(H:Nat→Bool)(l:List Nat):Nat→Bool:=fun i=>H i||decide (i∈l)
def dn(R:List bN)(H:Nat→Bool):Nat→Bool:=R.foldl (fun H r=>ix H (gO r H)) H
def rounds(R:List bN):Nat→(Nat→Bool)→Nat→Bool
 | 0,H=>H
 | n+1,H=>rounds R n (dn R H)
theorem jB:∀(R:List bN) (H:Nat→Bool) (i:Nat),H i=true→dn R H i=true
 | [],_,_,h=>h
 | r::R,H,i,h=>by
  show dn R (ix H (gO r H)) i=true
  exact jB R _ i (by simp[ix,h])
theorem Pv{r:bN}{H K:Nat→Bool}(h:∀i,H i=true→K i=true){n:Nat}(hn:n∈GG r H):n∈GG r K:=by
 unfold GG at hn ⊢
 rw[List.mem_filter,List.all_eq_true]at hn ⊢
 exact⟨hn.1,fun b hb=>h _ (hn.2 b hb)⟩
theorem Gn{r:bN}{H K:Nat→Bool}(h:∀i,H i=true→K i=true){i:Nat}(hi:i∈gO r H):i∈gO r K:=by
 obtain⟨n,hn,rfl⟩:=List.mem_map.1 hi
 exact List.mem_map.2 ⟨n,Pv h hn,rfl⟩
theorem rD:∀(R:List bN) (H:Nat→Bool) (r:bN),r∈R→∀i,i∈gO r H→dn R H i=true
 | [],_,_,h,_,_=>by cases h
 | q::R,H,r,hr,i,hi=>by
  show dn R (ix H (gO q H)) i=true
  rcases List.mem_cons.1 hr with rfl | hr
  · exact jB R _ i (by simp[ix,hi])
  · exact rD R _ r hr i (Gn (fun j hj=>by simp[ix,hj]) hi)
def ng(R:List bN)(X:Nat→Prop):Prop:=∀r,r∈R→∀n,n∈vs r→(∀b,b∈r.body→X (GC (pI n) b))→X (GC (pI n) r.head)
theorem oS{X:Nat→Prop}:∀(R:List bN) (H:Nat→Bool),ng R X→(∀i,H i=true→X i)→∀i,dn R H i=true→X i
 | [],_,_,h,i,hi=>h i hi
 | q::R,H,hX,h,i,hi=>by
  refine oS R (ix H (gO q H)) (fun r hr=>hX r (by simp[hr])) ?_ i hi
  intro j hj
  simp only[ix,Bool.or_eq_true,decide_eq_true_eq]at hj
  rcases hj with hj | hj
  · exact h j hj
  · obtain⟨n,hn,rfl⟩:=List.mem_map.1 hj
    unfold GG at hn
    rw[List.mem_filter,List.all_eq_true]at hn
    exact hX q (by simp) n hn.1 (fun b hb=>h _ (hn.2 b hb))
theorem rO{R:List bN}{X:Nat→Prop}(hX:ng R X):∀(n:Nat) (H:Nat→Bool),(∀i,H i=true→X i)→∀i,rounds R n H i=true→X i
 | 0,_,h,i,hi=>h i hi
 | n+1,H,h,i,hi=>rO hX n _ (oS R H hX h) i hi
theorem Bh{R:List bN}:∀(n:Nat) (H:Nat→Bool) (i:Nat),H i=true→rounds R n H i=true
 | 0,_,_,h=>h
 | n+1,H,i,h=>Bh n _ i (jB R H i h)
def AH(H:Nat→Bool):Nat:=((List.range 36).filter fun i=>H i).length
theorem MY(H:Nat→Bool):AH H≤36:=by
 unfold AH
 have:=List.length_filter_le (fun i=>H i) (List.range 36)
 simpa using this
theorem filter_lt{α:Type}{p q:α→Bool}:∀(l:List α),(∀x,p x=true→q x=true)→(∃x,x∈l∧q x=true∧p x=false)→(l.filter p).length<(l.filter q).length
 | [],_,h=>by obtain⟨x,hx,_⟩:=h;cases hx
 | y::l,hpq,h=>by
  have hle:∀m:List α,(m.filter p).length≤(m.filter q).length:=by
   intro m
   induction m with
   | nil=>simp
   | cons z m ih=>
    rw[List.filter_cons,List.filter_cons]
    by_cases hp:p z=true
    · rw[if_pos hp,if_pos (hpq z hp)];simp;exact ih
    · rw[if_neg hp]
      split
      · simp;omega
      · exact ih
  rw[List.filter_cons,List.filter_cons]
  obtain⟨x,hx,h1,h2⟩:=h
  rcases List.mem_cons.1 hx with rfl | hx
  · rw[if_neg (by rw[h2];decide),if_pos h1]
    have:=hle l
    simp
    omega
  · have ih:=filter_lt l hpq ⟨x,hx,h1,h2⟩
    by_cases hp:p y=true
    · rw[if_pos hp,if_pos (hpq y hp)];simp;exact ih
    · rw[if_neg hp]
      split
      · simp;omega
      · exact ih
theorem uC{R:List bN}(hR:∀H i,36≤i→H i=false→dn R H i=false):∀(n:Nat) (H:Nat→Bool),(∀i,36≤i→H i=false)→36<n+AH H→dn R (rounds R n H)=rounds R n H
 | 0,H,hH,h=>by have:=MY H;omega
 | n+1,H,hH,h=>by
  by_cases hs:dn R H=H
  · have:∀m,rounds R m H=H:=by
     intro m
     induction m with
     | zero=>rfl
     | succ m ih=>show rounds R m (dn R H)=H;rw[hs,ih]
    rw[this,hs]
  · show dn R (rounds R n (dn R H))=rounds R n (dn R H)
    refine uC hR n _ (fun i hi=>hR H i hi (hH i hi)) ?_
    have:AH H<AH (dn R H):=by
     unfold AH
     apply filter_lt _ (fun i hi=>jB R H i hi)
     apply Classical.byContradiction
     intro hc
     apply hs
     funext i
     by_cases hi:i<36
     · cases h1:H i with
       | true=>exact jB R H i h1
       | false=>
        cases h2:dn R H i with
        | false=>rfl
        | true=>exact absurd ⟨i,by simpa using hi,h2,h1⟩ hc
     · rw[hH i (by omega),hR H i (by omega) (hH i (by omega))]
    omega
end En
/- axiomkeep: written. -/
section
open Go.RowKit
def Fl(x:Nat):ByteArray:=(Ax.dG x).text
def fW(i:Nat)(p:ByteArray)(x:Nat):ByteArray:=(if 0<i then p++⟨#[44]⟩else p)++Fl x
def lJ:List Nat→Nat→ByteArray→ByteArray
 | [],_,p=>p
 | x::l,i,p=>lJ l (i+1) (fW i p x)
theorem Sb{x:Nat}(h:x<3):(⟨#[88,89,90]⟩:ByteArray).extract x (x+1)=Fl x:=by
 have:x=0∨x=1∨x=2:=by omega
 rcases this with rfl | rfl | rfl<;>rfl
theorem Od{x:Nat}(h:¬x<3):Fl x=Ax.bZ (x-3):=by simp[Fl,Ax.dG,h]
theorem EE(x:Nat):(Fl x).size≤2:=by
 unfold Fl Ax.dG
 split
 · unfold Ax.iF;simp only;split<;>decide
 · unfold Ax.bZ;simp only;split<;>decide
theorem xV(x:Nat):(Ax.cq x).size≤3:=by unfold Ax.cq;split<;>decide
theorem jH{x n:Nat}(h:x<n):Ax.a8 (x:Int) n=x:=by
 unfold Ax.a8
 rw[if_neg (by omega),Int.emod_eq_of_lt (by omega) (by omega)]
 omega
theorem Mh(x:Nat)(h3:¬x<3)(h7:x<7)(N:Int)(hN:N=(x:Int)-3):∀w,Calls Tryz.prog 122 #[.int .i64 N] w fun e w'=>e=.returned (.string (Fl x))∧Below w.heap.size w w':=by
 intro w
 have e:N=((x-3:Nat):Int):=by omega
 rw[e,Od h3]
 have:=ra ((x-3:Nat):Int) w ⟨by omega,by omega⟩
 rw[jH (by omega)]at this
 exact this
theorem DM(w:World)(p:Int)(hp:b8 p)(b:Nat)(ld:Option Addr)(lc:Nat)(ts:List Nat)(h:w.ownsRow b 3 1 (.slice ld ts.length lc) ts.length (aE ts))(hl:ts.length≤1000)(h7:Hid (∀x,x∈ts→x<7))(R:ByteArray)(HR:Hid (lJ ts 0 (Ax.cq (Ax.a8 p 3)++⟨#[40]⟩)=R)):
 Calls Tryz.prog 61 #[.int .i64 p,.slice ld ts.length lc] w fun e w'=>e=.returned (.string (R++⟨#[41]⟩))∧Below w.heap.size w w':=by
 have l6:=fun w=>EG p w hp
 have uK:=xV (Ax.a8 p 3)
 generalize Ax.cq (Ax.a8 p 3)=P at*
 have AJ:Hid (∀w,Calls Tryz.prog 18 #[.int .i64 p] w fun e w'=>e=.returned (.string P)∧Below w.heap.size w w'):=l6
 clear l6
 have hP1:(P++⟨#[40]⟩:ByteArray).size≤10:=by rw[ByteArray.size_append];have:(⟨#[40]⟩:ByteArray).size=1:=rfl;omega
 go_enter Tryz.func61,Tryz.ntmps61
 go_wp2_with (go_at_call 18;refine(AJ.out _).mono ?_;rintro e w1 ⟨rfl,bk⟩)
 go_loopw [5,6] (fun sv iv wr=>∃(i:Nat) (q:ByteArray),i≤ts.length∧sv=.string q∧iv=.int .i64 i∧Below w.heap.size w wr∧q.size≤10+10*i∧lJ (ts.drop i) i q=R) (fun _ iv _=>ts.length-(intOf iv).toNat)
 case atStart=>exact⟨0,_,Nat.zero_le _,rfl,rfl,bk,by omega,HR.out⟩
 case round=>
  obtain⟨i,q,hi,rfl,rfl,aR,Co,hr⟩:=hrel
  have KS:Hid (lJ (ts.drop i) i q=R):=hr
  clear hr HR
  have cr:=aR.size
  by_cases aC:i<ts.length
  · obtain⟨g,rfl,hg,hc,bA⟩:=ax (af h aR) (by omega)
    have c0:=bA _ _ (rl ts i aC)
    clear bA
    have hx7:=h7.out _ (List.getElem_mem aC)
    have fo:ts.drop i=ts[i]::ts.drop (i+1):=List.drop_eq_getElem_cons aC
    rw[fo]at KS
    clear fo
    generalize ts[i]=x at*
    have HN:Hid (lJ (ts.drop (i+1)) (i+1) (fW i q x)=R):=KS
    clear KS
    have hxs:=EE x
    have Ca:(⟨#[44]⟩:ByteArray).size=1:=rfl
    have RK:Hid ((fW i q x).size≤10+10*(i+1)):=by
     show(fW i q x).size≤_
     unfold fW
     split
     · rw[ByteArray.size_append,ByteArray.size_append];omega
     · rw[ByteArray.size_append];omega
    have hq1:(q++⟨#[44]⟩:ByteArray).size≤11+10*i:=by rw[ByteArray.size_append];omega
    by_cases hx:x<3
    · have hxb:decide ((x:Int)<3)=true:=by simp;omega
      have hex:=Sb hx
      by_cases h0:0<i
      · have h0b:decide ((0:Int)<(i:Int))=true:=by simp;omega
        have HW:Hid (fW i q x=q++⟨#[44]⟩++Fl x):=by simp[Hid,fW,h0]
        go_wp2_with fail
        go_region
        all_goals (go_wp2_with fail)
        all_goals (go_roundw;(case rel=>exact⟨i+1,fW i q x,by omega,by rw[HW.out,←hex],by go_num,aR.drew,RK.out,HN.out⟩);(case measure=>simp[intOf];omega))
      · have h0b:decide ((0:Int)<(i:Int))=false:=by simp;omega
        have HW:Hid (fW i q x=q++Fl x):=by simp[Hid,fW,h0]
        go_wp2_with fail
        go_region
        all_goals (go_wp2_with fail)
        all_goals (go_roundw;(case rel=>exact⟨i+1,fW i q x,by omega,by rw[HW.out,←hex],by go_num,aR.drew,RK.out,HN.out⟩);(case measure=>simp[intOf];omega))
    · have hxb:decide ((x:Int)<3)=false:=by simp;omega
      have iG:=Mh x hx hx7 ((x:Int)-3) rfl
      have BW:Hid (∀w,Calls Tryz.prog 122 #[.int .i64 ((x:Int)-3)] w fun e w'=>e=.returned (.string (Fl x))∧Below w.heap.size w w'):=iG
      clear iG
      by_cases h0:0<i
      · have h0b:decide ((0:Int)<(i:Int))=true:=by simp;omega
        have HW:Hid (fW i q x=q++⟨#[44]⟩++Fl x):=by simp[Hid,fW,h0]
        go_wp2_with (go_at_call 122;refine(BW.out _).mono ?_;rintro e w2 ⟨rfl,cM⟩)
        go_roundw
        case rel=>exact⟨i+1,fW i q x,by omega,by rw[HW.out],by go_num,aR.trans (cM.mono cr),RK.out,HN.out⟩
        case measure=>simp[intOf];omega
      · have h0b:decide ((0:Int)<(i:Int))=false:=by simp;omega
        have HW:Hid (fW i q x=q++Fl x):=by simp[Hid,fW,h0]
        go_wp2_with (go_at_call 122;refine(BW.out _).mono ?_;rintro e w2 ⟨rfl,cM⟩)
        go_roundw
        case rel=>exact⟨i+1,fW i q x,by omega,by rw[HW.out],by go_num,aR.trans (cM.mono cr),RK.out,HN.out⟩
        case measure=>simp[intOf];omega
  · have Ya:q=R:=by
     have:=KS.out
     rw[List.drop_eq_nil_of_le (by omega)]at this
     exact this
    subst Ya
    clear KS
    go_wp2_with fail
    go_ret
    exact⟨rfl,aR⟩
end
/- axiomkeep: what written writes, as tokens. No program here. -/
section
def dA(l:List Ax.EI):List UInt8:=l.flatMap fun x=>x.2.data.toList
theorem gh(l l':List Ax.EI):dA (l++l')=dA l++dA l':=by simp[dA]
theorem gW(x:Ax.EI)(l:List Ax.EI):dA (x::l)=x.2.data.toList++dA l:=by simp[dA]
theorem EM:∀(l:List Nat) (i:Nat) (p:ByteArray),0<i→(lJ l i p).data.toList=p.data.toList++l.flatMap fun x=>44::(Fl x).data.toList
 | [],i,p,_=>by simp[lJ]
 | x::l,i,p,h=>by
  rw[lJ,EM l (i+1) _ (by omega)]
  simp[fW,h,ByteArray.data_append]
theorem rY:∀(l:List Nat) (x:Nat),dA (Ax.de ((x::l).map Ax.dG))=(Fl x).data.toList++l.flatMap fun x=>44::(Fl x).data.toList
 | [],x=>by simp[Ax.de,dA,Ax.tI,Fl]
 | y::l,x=>by
  have ih:=rY l y
  rw[List.map_cons]at ih
  rw[List.map_cons,List.map_cons,Ax.de,gW,gW,ih]
  simp[Ax.tI,Ax.lz,Fl]
theorem qa(p:Nat)(ts:List Nat)(h:ts≠[]):(lJ ts 0 (Ax.cq p++⟨#[40]⟩)++⟨#[41]⟩:ByteArray).data.toList=dA (Ax.dx (Ax.jQ p ts)):=by
 cases ts with
 | nil=>exact absurd rfl h
 | cons x l=>
  rw[ByteArray.data_append,Array.toList_append,lJ,EM l 1 _ (by omega)]
  unfold Ax.dx Ax.jQ
  simp only
  rw[gW,gW,gh,rY]
  simp[fW,ByteArray.data_append,dA]
end
/- axiomkeep: body. -/
section
open Go.RowKit
theorem Mi(w:World)(p a b:Int)(ad:Addr)(n c:Nat)(hn:n≤c)(hc:c≤maxLen):Calls Tryz.prog 63 #[.agg #[.int .i64 p,.int .i64 a,.int .i64 b,.slice (some ad) n c]] w fun e w'=>e=.returned (.slice (some ad) (min n 2) c)∧Below w.heap.size w w':=by
 have hm:maxLen=9223372036854775807:=rfl
 by_cases h2:2<n
 · have hb:decide ((2:Int)<(n:Int))=true:=by simp;omega
   rw[Nat.min_eq_right (by omega)]
   go_enter Tryz.func63,Tryz.ntmps63
   go_wp2_with fail
   go_ret
   exact⟨rfl,(Below.refl _ _).alloc (Nat.le_refl _) _⟩
 · have hb:decide ((2:Int)<(n:Int))=false:=by simp;omega
   rw[Nat.min_eq_left (by omega)]
   go_enter Tryz.func63,Tryz.ntmps63
   go_wp2_with fail
   go_ret
   exact⟨rfl,(Below.refl _ _).alloc (Nat.le_refl _) _⟩
theorem JP(w:World)(p a b:Int)(c:Nat):Calls Tryz.prog 63 #[.agg #[.int .i64 p,.int .i64 a,.int .i64 b,.slice none 0 c]] w fun e w'=>e=.returned (.slice none 0 c)∧Below w.heap.size w w':=by
 go_enter Tryz.func63,Tryz.ntmps63
 go_wp2_with fail
 go_ret
 exact⟨rfl,(Below.refl _ _).alloc (Nat.le_refl _) _⟩
end
end Go.Proofs.YtdmicblafmhflaaGreatDoor
