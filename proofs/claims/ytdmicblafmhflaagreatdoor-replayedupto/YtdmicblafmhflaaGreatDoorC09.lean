/- Rules and facts in numbers, as axiomkeep's laws have them. No program here. -/
import Derived.Test.YtdmicblafmhflaaGreatDoorC08
import Derived.Test.YtdmicblafmhflaaGreatDoorC03
set_option linter.unusedSimpArgs false
set_option linter.unusedVariables false
set_option maxHeartbeats 4000000
set_option maxRecDepth 100000
namespace Go.Proofs.YtdmicblafmhflaaGreatDoor
namespace En
open Ax (cf cr ij dG gM)
abbrev NA:=Nat×List Nat
structure bO where
 head:NA
 body:List NA
def Dw(a:NA):Prop:=gM a.1 a.2∧∀n,n∈a.2→n<7
structure tz(r:bO):Prop where
 head:Dw r.head
 body:∀b,b∈r.body→Dw b
 two:r.body.length≤2
 safe:∀n,n∈r.head.2→n<3→∃b,b∈r.body∧n∈b.2
def iQ(a:NA):Ax.Atom:=⟨0,cr a.1,a.2.map dG⟩
def cO(r:bO):Ax.br:=⟨iQ r.head,r.body.map iQ⟩
def lI(p:Nat)(xs:List Nat):cg:=(cr p,pad (xs.map cf))
def A8(v:Nat→Nat)(n:Nat):Nat:=if n<3 then v n else n-3
def subst(v:Nat→Nat)(a:NA):cg:=lI a.1 (a.2.map (A8 v))
def sig(v:Nat→Nat):ByteArray→ByteArray:=fun y=>if y=ij 0 then cf (v 0)else if y=ij 1 then cf (v 1)else if y=ij 2 then cf (v 2)else ⟨#[97]⟩
theorem ou(n:Nat):cf n≠ee:=by
 unfold cf ee
 split<;>decide
theorem Vw(v:Nat→Nat)(y:ByteArray):sig v y≠ee:=by
 unfold sig
 split
 · exact ou _
 · split
   · exact ou _
   · split
     · exact ou _
     · decide
theorem Rk(v:Nat→Nat){n:Nat}(h:n<3):sig v (ij n)=cf (v n):=by
 have:n=0∨n=1∨n=2:=by omega
 have h01:¬ij 1=ij 0:=by decide
 have h02:¬ij 2=ij 0:=by decide
 have Tx:¬ij 2=ij 1:=by decide
 rcases this with rfl | rfl | rfl<;>simp[sig,h01,h02,Tx]
theorem Zc{n m:Nat}(hn:n<3)(hm:m<3)(h:ij n=ij m):n=m:=by
 have a:n=0∨n=1∨n=2:=by omega
 have b:m=0∨m=1∨m=2:=by omega
 rcases a with rfl | rfl | rfl<;>rcases b with rfl | rfl | rfl<;>first | rfl | (exfalso;revert h;decide)
theorem JP{n m:Nat}(hn:n<4)(hm:m<4)(h:cf n=cf m):n=m:=by
 have a:n=0∨n=1∨n=2∨n=3:=by omega
 have b:m=0∨m=1∨m=2∨m=3:=by omega
 rcases a with rfl | rfl | rfl | rfl<;>rcases b with rfl | rfl | rfl | rfl<;>first | rfl | (exfalso;revert h;decide)
theorem sX{n m:Nat}(hn:n<3)(hm:m<3)(h:cr n=cr m):n=m:=by
 have a:n=0∨n=1∨n=2:=by omega
 have b:m=0∨m=1∨m=2:=by omega
 rcases a with rfl | rfl | rfl<;>rcases b with rfl | rfl | rfl<;>first | rfl | (exfalso;revert h;decide)
theorem M5(v:Nat→Nat)(n:Nat):dJ (sig v) (dG n)=cf (A8 v n):=by
 unfold dG A8
 by_cases h:n<3
 · rw[if_pos h,if_pos h]
   show(if (1:Int)=0 then ij n else sig v (ij n))=_
   rw[if_neg (by decide),Rk v h]
 · rw[if_neg h,if_neg h]
   rfl
theorem AX(v:Nat→Nat)(a:NA):dt (sig v) (iQ a)=subst v a:=by
 unfold dt subst lI iQ
 simp only[List.map_map]
 have e:List.map (dJ (sig v)∘dG) a.2=List.map (cf∘A8 v) a.2:=List.map_congr_left fun n _=>M5 v n
 rw[e]
theorem BM{a b:List ByteArray}(hl:a.length=b.length)(h:pad a=pad b):a=b:=by
 have:=congrArg (fun l=>l.take a.length) h
 simp only[xY]at this
 rw[hl,xY]at this
 exact this
theorem lL:∀{a b:List Nat},(∀n,n∈a→n<4)→(∀n,n∈b→n<4)→a.map cf=b.map cf→a=b
 | [],[],_,_,_=>rfl
 | [],y::b,_,_,h=>by simp at h
 | x::a,[],_,_,h=>by simp at h
 | x::a,y::b,ha,hb,h=>by
  simp only[List.map_cons,List.cons.injEq]at h
  rw[JP (ha x (by simp)) (hb y (by simp)) h.1,lL (fun n hn=>ha n (by simp[hn])) (fun n hn=>hb n (by simp[hn])) h.2]
def Can(f:cg):Prop:=∃p xs,gM p xs∧(∀x,x∈xs→x<4)∧f=lI p xs
theorem O3{f:cg}(hf:Can f){a:NA}(ha:Dw a):Ak (iQ a) f:=by
 obtain⟨p,xs,hk,hx,rfl⟩:=hf
 intro hp
 have FU:a.1=p:=sX ha.1.1 hk.1 hp
 refine⟨xs.map cf, ?_, ?_,rfl⟩
 · have h1:=ha.1.2
   have h2:=hk.2
   rw[FU]at h1
   simp[iQ,h1,h2]
 · intro n hn
   obtain⟨x,_,rfl⟩:=List.mem_map.1 hn
   exact ou x
theorem Bd(ts:List Nat):qA (ts.map dG):=by
 intro t ht hk
 obtain⟨n,_,rfl⟩:=List.mem_map.1 ht
 unfold dG at hk ⊢
 split
 · rename_i h;rw[if_pos h]at hk;cases hk
 · exact ou _
theorem Lt{v:Nat→Nat}(hv:∀i,i<3→v i<4){a:NA}(ha:Dw a):Can (subst v a):=by
 refine⟨a.1,a.2.map (A8 v),⟨ha.1.1,by rw[List.length_map];exact ha.1.2⟩, ?_,rfl⟩
 intro x hx
 obtain⟨n,hn,rfl⟩:=List.mem_map.1 hx
 unfold A8
 have:=ha.2 n hn
 split
 · rename_i h;exact hv n h
 · omega
theorem uO{r:bO}(h:tz r):Safe (cO r):=by
 intro t ht hk
 obtain⟨n,hn,rfl⟩:=List.mem_map.1 ht
 have h3:n<3:=by
  unfold dG at hk
  split at hk
  · assumption
  · exact absurd rfl hk
 obtain⟨b,hb,hm⟩:=h.safe n hn h3
 exact⟨iQ b,List.mem_map.2 ⟨b,hb,rfl⟩,dG n,List.mem_map.2 ⟨n,hm,rfl⟩,hk,rfl⟩
theorem rE(r:bO):Dn (cO r):=by
 intro a ha
 obtain⟨b,_,rfl⟩:=List.mem_map.1 ha
 exact Bd b.2
end En
/- As many tuples of facts as values of the variables. No program here. -/
namespace En
open Ax (cf cr ij dG gM)
def pf(n:Nat):Nat→Nat:=fun i=>match i with | 0=>n%4 | 1=>n/4%4 | _=>n/16
theorem iT{n:Nat}(h:n<64)(i:Nat):pf n i<4:=by
 match i with
 | 0=>show n%4<4;omega
 | 1=>show n/4%4<4;omega
 | (k+2)=>show n/16<4;omega
theorem PZ{n m:Nat}(h:∀i,i<3→pf n i=pf m i):n=m:=by
 have h0:n%4=m%4:=h 0 (by decide)
 have h1:n/4%4=m/4%4:=h 1 (by decide)
 have h2:n/16=m/16:=h 2 (by decide)
 omega
theorem Oi(v:Nat→Nat)(h:∀i,v i<4):∃n,n<64∧∀i,i<3→pf n i=v i:=by
 have h0:=h 0
 have h1:=h 1
 have h2:=h 2
 refine⟨v 0+4*v 1+16*v 2,by omega, ?_⟩
 intro i hi
 have:i=0∨i=1∨i=2:=by omega
 rcases this with rfl | rfl | rfl
 · show(v 0+4*v 1+16*v 2)%4=v 0;omega
 · show(v 0+4*v 1+16*v 2)/4%4=v 1;omega
 · show(v 0+4*v 1+16*v 2)/16=v 2;omega
def u4(r:bO)(i:Nat):Bool:=r.body.any fun b=>decide (i∈b.2)
theorem rT{r:bO}{i:Nat}:u4 r i=true↔∃b,b∈r.body∧i∈b.2:=by simp[u4]
def okv(r:bO)(n:Nat):Bool:=(u4 r 0||decide (pf n 0=0))&&(u4 r 1||decide (pf n 1=0))&&(u4 r 2||decide (pf n 2=0))
theorem BC{r:bO}{n:Nat}:okv r n=true↔∀i,i<3→u4 r i=true∨pf n i=0:=by
 unfold okv
 simp only[Bool.and_eq_true,Bool.or_eq_true,decide_eq_true_eq]
 constructor
 · rintro⟨⟨h0,h1⟩,h2⟩ i hi
   have:i=0∨i=1∨i=2:=by omega
   rcases this with rfl | rfl | rfl
   · exact h0
   · exact h1
   · exact h2
 · intro h
   exact⟨⟨h 0 (by decide),h 1 (by decide)⟩,h 2 (by decide)⟩
def vs(r:bO):List Nat:=(List.range 64).filter (okv r)
def GK(r:bO)(n:Nat):List cg:=r.body.map (subst (pf n))
theorem iP{r:bO}{n:Nat}:n∈vs r↔n<64∧okv r n=true:=by simp[vs]
theorem DS{v u:Nat→Nat}{b:NA}(hb:Dw b)(hv:∀i,i<3→v i<4)(hu:∀i,i<3→u i<4)(h:subst v b=subst u b):∀i,i∈b.2→A8 v i=A8 u i:=by
 have aE:∀(w:Nat→Nat),(∀i,i<3→w i<4)→∀n,n∈b.2.map (A8 w)→n<4:=by
  intro w hw n hn
  obtain⟨x,hx,rfl⟩:=List.mem_map.1 hn
  have:=hb.2 x hx
  unfold A8
  split
  · rename_i h;exact hw x h
  · omega
 unfold subst lI at h
 have h2:=BM (by simp) (Prod.mk.inj h).2
 have h3:=lL (aE v hv) (aE u hu) h2
 exact List.map_inj_left.1 h3
theorem Rv{r:bO}(hr:tz r){n m:Nat}(hn:n∈vs r)(hm:m∈vs r)(h:GK r n=GK r m):n=m:=by
 obtain⟨n1,n2⟩:=iP.1 hn
 obtain⟨m1,m2⟩:=iP.1 hm
 apply PZ
 intro i hi
 rcases BC.1 n2 i hi with hu | h0
 · obtain⟨b,hb,MD⟩:=rT.1 hu
   have:=DS (hr.body b hb) (fun i _=>iT n1 i) (fun i _=>iT m1 i) (List.map_inj_left.1 h b hb) i MD
   unfold A8 at this
   rwa [if_pos hi,if_pos hi]at this
 · rcases BC.1 m2 i hi with hu | h1
   · obtain⟨b,hb,MD⟩:=rT.1 hu
     have:=DS (hr.body b hb) (fun i _=>iT n1 i) (fun i _=>iT m1 i) (List.map_inj_left.1 h b hb) i MD
     unfold A8 at this
     rwa [if_pos hi,if_pos hi]at this
   · rw[h0,h1]
theorem CP{r:bO}(hr:tz r){fs:List cg}(hf:∀f,f∈fs→Can f):∀x,x∈(cO r).body.zip fs→Ak x.1 x.2:=by
 intro x hx
 obtain⟨h1,h2⟩:=List.of_mem_zip hx
 obtain⟨b,hb,e⟩:=List.mem_map.1 h1
 rw[←e]
 exact O3 (hf _ h2) (hr.body b hb)
theorem rY{r:bO}(hr:tz r){n:Nat}(hn:n<64):gH (cO r) (GK r n)=some (subst (pf n) r.head):=by
 have hc:∀f,f∈GK r n→Can f:=by
  intro f hf
  obtain⟨b,hb,rfl⟩:=List.mem_map.1 hf
  exact Lt (fun i _=>iT hn i) (hr.body b hb)
 rw[Av (uO hr) (rE r) (CP hr hc)]
 refine⟨sig (pf n),Vw _, ?_,(AX _ _).symm⟩
 unfold GK cO
 simp only[List.map_map]
 exact List.map_congr_left fun b _=>(AX _ _).symm
theorem NP{r:bO}(hr:tz r){fs:List cg}(hf:∀f,f∈fs→Can f){h:cg}(hi:gH (cO r) fs=some h):∃n,n∈vs r∧GK r n=fs:=by
 rw[Av (uO hr) (rE r) (CP hr hf)]at hi
 obtain⟨s,hs,e,_⟩:=hi
 have BA:∀b,b∈r.body→∃xs:List Nat,xs.length=b.2.length∧(∀x,x∈xs→x<4)∧b.2.map (fun n=>dJ s (dG n))=xs.map cf:=by
  intro b hb
  have hm:dt s (iQ b)∈fs:=by
   rw[e]
   exact List.mem_map.2 ⟨iQ b,List.mem_map.2 ⟨b,hb,rfl⟩,rfl⟩
  obtain⟨p,xs,hk,hx,Vp⟩:=hf _ hm
  unfold dt lI iQ at Vp
  simp only[List.map_map,Prod.mk.injEq]at Vp
  have hp:=sX (hr.body b hb).1.1 hk.1 Vp.1
  have hl:xs.length=b.2.length:=by
   have h1:=(hr.body b hb).1.2
   have h2:=hk.2
   rw[hp]at h1
   omega
  refine⟨xs,hl,hx, ?_⟩
  exact BM (by simp[hl]) Vp.2
 have hex:∀i,∃x,x<4∧(u4 r i=true→i<3→s (ij i)=cf x)∧(u4 r i=false→x=0):=by
  intro i
  by_cases hu:u4 r i=true
  · by_cases hi3:i<3
    · obtain⟨b,hb,MD⟩:=rT.1 hu
      obtain⟨xs,hl,hx,hm⟩:=BA b hb
      obtain⟨j,hj,ej⟩:=List.getElem_of_mem MD
      have:=congrArg (fun l=>l[j]?) hm
      simp only[List.getElem?_map,List.getElem?_eq_getElem hj,List.getElem?_eq_getElem (show j<xs.length by omega),Option.map_some,Option.some.injEq]at this
      refine⟨xs[j]'(by omega),hx _ (List.getElem_mem _),fun _ _=> ?_,fun hf=>by rw[hu]at hf;cases hf⟩
      rw[←this,ej]
      unfold dG dJ
      rw[if_pos hi3]
      show _=if (1:Int)=0 then _ else _
      rw[if_neg (by decide)]
    · exact⟨0,by decide,fun _ h=>absurd h hi3,fun _=>rfl⟩
  · exact⟨0,by decide,fun h=>absurd h hu,fun _=>rfl⟩
 obtain⟨v,hv⟩:∃v:Nat→Nat,∀i,v i<4∧(u4 r i=true→i<3→s (ij i)=cf (v i))∧(u4 r i=false→v i=0):=⟨fun i=>Classical.choose (hex i),fun i=>Classical.choose_spec (hex i)⟩
 obtain⟨n,hn,hnv⟩:=Oi v (fun i=>(hv i).1)
 refine⟨n,iP.2 ⟨hn,BC.2 fun i hi=> ?_⟩, ?_⟩
 · by_cases hu:u4 r i=true
   · exact .inl hu
   · right
     rw[hnv i hi]
     exact(hv i).2.2 (by simpa using hu)
 · rw[e]
   unfold GK cO
   simp only[List.map_map]
   apply List.map_congr_left
   intro b hb
   unfold subst lI
   show _=dt s (iQ b)
   unfold dt iQ
   simp only[List.map_map]
   congr 2
   apply List.map_congr_left
   intro x hx
   show cf (A8 (pf n) x)=dJ s (dG x)
   unfold A8 dG dJ
   by_cases h3:x<3
   · rw[if_pos h3,if_pos h3]
     show _=if (1:Int)=0 then _ else _
     rw[if_neg (by decide),hnv x h3]
     exact((hv x).2.1 (rT.2 ⟨b,hb,hx⟩) h3).symm
   · rw[if_neg h3,if_neg h3]
     rfl
theorem FZ{F:Type}{k:Nat}(hk:k≤2){L:List F}(h:L.Nodup):(iz k L).Nodup:=by
 have:k=0∨k=1∨k=2:=by omega
 rcases this with e | e | e<;>subst e
 · simp[iz]
 · show(L.map fun x=>[x]).Pairwise (· ≠ ·)
   rw[List.pairwise_map]
   exact List.Pairwise.imp (fun pI e=>pI (by simpa using e)) h
 · show(L.flatMap fun x=>L.map fun y=>[x,y]).Nodup
   show List.Pairwise (· ≠ ·) _
   rw[List.pairwise_flatMap]
   refine⟨fun x _=> ?_,List.Pairwise.imp ?_ h⟩
   · rw[List.pairwise_map]
     exact List.Pairwise.imp (fun pI e=>pI (by simpa using e)) h
   · intro a b pI x hx y hy e
     subst e
     obtain⟨c,_,rfl⟩:=List.mem_map.1 hx
     obtain⟨d,_,e⟩:=List.mem_map.1 hy
     simp at e
     exact pI e.1.symm
theorem Hp{α β:Type}{f:α→Option β}{g:α→β}:∀(l:List α),(∀x,x∈l→f x=some (g x))→l.filterMap f=l.map g
 | [],_=>rfl
 | x::l,h=>by
  rw[List.filterMap_cons_some (h x (by simp)),Hp l (fun y hy=>h y (by simp[hy])),List.map_cons]
def PK(r:bO)(L:List cg):List Nat:=(vs r).filter fun n=>(GK r n).all fun f=>hasB L f
theorem Vj{r:bO}(hr:tz r){L:List cg}(hL:L.Nodup)(hC:∀f,f∈L→Can f)(h:cg):
 lC (cU (cO r)) (iz r.body.length L) h=gN ((PK r L).map fun n=>subst (pf n) r.head) h:=by
 have MT:List.Perm ((iz r.body.length L).filter fun fs=>(gH (cO r) fs).isSome) ((PK r L).map (GK r)):=by
  rw[List.perm_ext_iff_of_nodup]
  · intro fs
    rw[List.mem_filter,List.mem_map,xJ hr.two]
    constructor
    · rintro⟨⟨h1,h2⟩,h3⟩
      obtain⟨x,hx⟩:=Option.isSome_iff_exists.1 h3
      obtain⟨n,hn,e⟩:=NP hr (fun f hf=>hC f (h2 f hf)) hx
      refine⟨n, ?_,e⟩
      unfold PK
      rw[List.mem_filter]
      refine⟨hn, ?_⟩
      rw[e,List.all_eq_true]
      intro f hf
      exact yk.2 (h2 f hf)
    · rintro⟨n,hn,rfl⟩
      unfold PK at hn
      rw[List.mem_filter,List.all_eq_true]at hn
      refine⟨⟨by simp[GK],fun f hf=>yk.1 (hn.2 f hf)⟩, ?_⟩
      rw[rY hr (iP.1 hn.1).1]
      rfl
  · exact(FZ hr.two hL).filter _
  · unfold PK
    rw[List.nodup_iff_pairwise_ne,List.pairwise_map]
    have DU:((vs r).filter fun n=>(GK r n).all fun f=>hasB L f).Nodup:=by
     unfold vs
     exact(List.nodup_range.filter _).filter _
    refine List.Pairwise.imp_of_mem ?_ DU
    intro a b ha hb pI e
    exact pI (Rv hr (List.mem_filter.1 ha).1 (List.mem_filter.1 hb).1 e)
 have e1:(iz r.body.length L).filterMap (gH (cO r))=((iz r.body.length L).filter fun fs=>(gH (cO r) fs).isSome).filterMap (gH (cO r)):=by
  rw[List.filterMap_filter]
  congr 1
  funext fs
  cases gH (cO r) fs<;>simp
 have e2:((PK r L).map (GK r)).filterMap (gH (cO r))=(PK r L).map fun n=>subst (pf n) r.head:=by
  rw[List.filterMap_map]
  apply Hp
  intro n hn
  unfold PK at hn
  exact rY hr (iP.1 (List.mem_filter.1 hn).1).1
 rw[Ck]
 show gN ((iz r.body.length L).filterMap (gH (cO r))) h=_
 rw[e1,←e2]
 exact DX (MT.filterMap _) h
end En
/- What axiomkeep's least works out: the least set that holds what is given and what follows. No program here. -/
namespace En
open Ax (cf cr ij dG gM)
def nr(p:Nat)(xs:List Nat):Nat:=if p=0 then xs.getD 0 0 else 4+16*(p-1)+4*xs.getD 0 0+xs.getD 1 0
def uF(i:Nat):cg:=if i<4 then lI 0 [i]else if i<20 then lI 1 [(i-4)/4,(i-4)%4]else lI 2 [(i-20)/4,(i-20)%4]
theorem Kh{xs:List Nat}(h:xs.length=1):∃a,xs=[a]:=by
 match xs,h with
 | [a],_=>exact⟨a,rfl⟩
theorem AW{xs:List Nat}(h:xs.length=2):∃a b,xs=[a,b]:=by
 match xs,h with
 | [a,b],_=>exact⟨a,b,rfl⟩
theorem wH{p:Nat}{xs:List Nat}(h:gM p xs):(p=0∧∃a,xs=[a])∨(p=1∧∃a b,xs=[a,b])∨(p=2∧∃a b,xs=[a,b]):=by
 obtain⟨h1,h2⟩:=h
 have:p=0∨p=1∨p=2:=by omega
 rcases this with rfl | rfl | rfl
 · exact .inl ⟨rfl,Kh (by simpa using h2)⟩
 · exact .inr (.inl ⟨rfl,AW (by simpa using h2)⟩)
 · exact .inr (.inr ⟨rfl,AW (by simpa using h2)⟩)
theorem Hj{p:Nat}{xs:List Nat}(h:gM p xs)(hx:∀x,x∈xs→x<4):nr p xs<36:=by
 rcases wH h with⟨rfl,a,rfl⟩ | ⟨rfl,a,b,rfl⟩ | ⟨rfl,a,b,rfl⟩
 · have:=hx a (by simp)
   simp[nr];omega
 · have:=hx a (by simp)
   have:=hx b (by simp)
   simp[nr];omega
 · have:=hx a (by simp)
   have:=hx b (by simp)
   simp[nr];omega
theorem Pn{p:Nat}{xs:List Nat}(h:gM p xs)(hx:∀x,x∈xs→x<4):uF (nr p xs)=lI p xs:=by
 rcases wH h with⟨rfl,a,rfl⟩ | ⟨rfl,a,b,rfl⟩ | ⟨rfl,a,b,rfl⟩
 · have:=hx a (by simp)
   have e:nr 0 [a]=a:=by simp[nr]
   rw[e]
   unfold uF
   rw[if_pos (by omega)]
 · have:=hx a (by simp)
   have:=hx b (by simp)
   have e:nr 1 [a,b]=4+4*a+b:=by simp[nr]
   rw[e]
   unfold uF
   rw[if_neg (by omega),if_pos (by omega),show(4+4*a+b-4)/4=a by omega,show(4+4*a+b-4)%4=b by omega]
 · have:=hx a (by simp)
   have:=hx b (by simp)
   have e:nr 2 [a,b]=20+4*a+b:=by simp[nr]
   rw[e]
   unfold uF
   rw[if_neg (by omega),if_neg (by omega),show(20+4*a+b-20)/4=a by omega,show(20+4*a+b-20)%4=b by omega]
theorem Na{i:Nat}(h:i<36):Can (uF i):=by
 unfold uF
 split
 · exact⟨0,[i],⟨by decide,rfl⟩,by simp;omega,rfl⟩
 · split
   · exact⟨1,[(i-4)/4,(i-4)%4],⟨by decide,rfl⟩,by simp;omega,rfl⟩
   · exact⟨2,[(i-20)/4,(i-20)%4],⟨by decide,rfl⟩,by simp;omega,rfl⟩
theorem Mf{f:cg}(h:Can f):∃i,i<36∧f=uF i:=by
 obtain⟨p,xs,hk,hx,rfl⟩:=h
 exact⟨nr p xs,Hj hk hx,(Pn hk hx).symm⟩
theorem Kz{p q:Nat}{xs ys:List Nat}(h1:gM p xs)(h2:gM q ys)(hx:∀x,x∈xs→x<4)(hy:∀x,x∈ys→x<4)(h:lI p xs=lI q ys):p=q∧xs=ys:=by
 unfold lI at h
 simp only[Prod.mk.injEq]at h
 have hp:=sX h1.1 h2.1 h.1
 subst hp
 have hl:xs.length=ys.length:=by rw[h1.2,h2.2]
 exact⟨rfl,lL hx hy (BM (by simp[hl]) h.2)⟩
theorem tE{i j:Nat}(hi:i<36)(hj:j<36)(h:uF i=uF j):i=j:=by
 have key:∀k,k<36→∃p xs,gM p xs∧(∀x,x∈xs→x<4)∧uF k=lI p xs∧nr p xs=k:=by
  intro k hk
  unfold uF
  split
  · exact⟨0,[k],⟨by decide,rfl⟩,by simp;omega,rfl,by simp[nr]⟩
  · split
    · exact⟨1,_,⟨by decide,rfl⟩,by simp;omega,rfl,by simp[nr];omega⟩
    · exact⟨2,_,⟨by decide,rfl⟩,by simp;omega,rfl,by simp[nr];omega⟩
 obtain⟨p,xs,k1,x1,e1,d1⟩:=key i hi
 obtain⟨q,ys,k2,x2,e2,d2⟩:=key j hj
 rw[e1,e2]at h
 obtain⟨rfl,rfl⟩:=Kz k1 k2 x1 x2 h
 rw[←d1,d2]
def FF(v:Nat→Nat)(a:NA):Nat:=nr a.1 (a.2.map (A8 v))
theorem pz{v:Nat→Nat}(hv:∀i,i<3→v i<4){a:NA}(ha:Dw a):gM a.1 (a.2.map (A8 v))∧∀x,x∈a.2.map (A8 v)→x<4:=by
 refine⟨⟨ha.1.1,by rw[List.length_map];exact ha.1.2⟩, ?_⟩
 intro x hx
 obtain⟨n,hn,rfl⟩:=List.mem_map.1 hx
 have:=ha.2 n hn
 unfold A8
 split
 · rename_i h;exact hv n h
 · omega
theorem og{v:Nat→Nat}(hv:∀i,i<3→v i<4){a:NA}(ha:Dw a):FF v a<36:=Hj (pz hv ha).1 (pz hv ha).2
theorem tp{v:Nat→Nat}(hv:∀i,i<3→v i<4){a:NA}(ha:Dw a):uF (FF v a)=subst v a:=Pn (pz hv ha).1 (pz hv ha).2
def EU(r:bO)(H:Nat→Bool):List Nat:=(vs r).filter fun n=>r.body.all fun b=>H (FF (pf n) b)
def fF(r:bO)(H:Nat→Bool):List Nat:=(EU r H).map fun n=>FF (pf n) r.head
def iw(H:Nat→Bool)(l:List Nat):Nat→Bool:=fun i=>H i||decide (i∈l)
def di(R:List bO)(H:Nat→Bool):Nat→Bool:=R.foldl (fun H r=>iw H (fF r H)) H
def rounds(R:List bO):Nat→(Nat→Bool)→Nat→Bool
 | 0,H=>H
 | n+1,H=>rounds R n (di R H)
theorem jg:∀(R:List bO) (H:Nat→Bool) (i:Nat),H i=true→di R H i=true
 | [],_,_,h=>h
 | r::R,H,i,h=>by
  show di R (iw H (fF r H)) i=true
  exact jg R _ i (by simp[iw,h])
theorem N7{r:bO}{H K:Nat→Bool}(h:∀i,H i=true→K i=true){n:Nat}(hn:n∈EU r H):n∈EU r K:=by
 unfold EU at hn ⊢
 rw[List.mem_filter,List.all_eq_true]at hn ⊢
 exact⟨hn.1,fun b hb=>h _ (hn.2 b hb)⟩
theorem Gt{r:bO}{H K:Nat→Bool}(h:∀i,H i=true→K i=true){i:Nat}(hi:i∈fF r H):i∈fF r K:=by
 obtain⟨n,hn,rfl⟩:=List.mem_map.1 hi
 exact List.mem_map.2 ⟨n,N7 h hn,rfl⟩
theorem rF:∀(R:List bO) (H:Nat→Bool) (r:bO),r∈R→∀i,i∈fF r H→di R H i=true
 | [],_,_,h,_,_=>by cases h
 | q::R,H,r,hr,i,hi=>by
  show di R (iw H (fF q H)) i=true
  rcases List.mem_cons.1 hr with rfl | hr
  · exact jg R _ i (by simp[iw,hi])
  · exact rF R _ r hr i (Gt (fun j hj=>by simp[iw,hj]) hi)
def mS(R:List bO)(X:Nat→Prop):Prop:=∀r,r∈R→∀n,n∈vs r→(∀b,b∈r.body→X (FF (pf n) b))→X (FF (pf n) r.head)
theorem oM{X:Nat→Prop}:∀(R:List bO) (H:Nat→Bool),mS R X→(∀i,H i=true→X i)→∀i,di R H i=true→X i
 | [],_,_,h,i,hi=>h i hi
 | q::R,H,hX,h,i,hi=>by
  refine oM R (iw H (fF q H)) (fun r hr=>hX r (by simp[hr])) ?_ i hi
  intro j hj
  simp only[iw,Bool.or_eq_true,decide_eq_true_eq]at hj
  rcases hj with hj | hj
  · exact h j hj
  · obtain⟨n,hn,rfl⟩:=List.mem_map.1 hj
    unfold EU at hn
    rw[List.mem_filter,List.all_eq_true]at hn
    exact hX q (by simp) n hn.1 (fun b hb=>h _ (hn.2 b hb))
theorem qZ{R:List bO}{X:Nat→Prop}(hX:mS R X):∀(n:Nat) (H:Nat→Bool),(∀i,H i=true→X i)→∀i,rounds R n H i=true→X i
 | 0,_,h,i,hi=>h i hi
 | n+1,H,h,i,hi=>qZ hX n _ (oM R H hX h) i hi
theorem ua{R:List bO}:∀(n:Nat) (H:Nat→Bool) (i:Nat),H i=true→rounds R n H i=true
 | 0,_,_,h=>h
 | n+1,H,i,h=>ua n _ i (jg R H i h)
def Ai(H:Nat→Bool):Nat:=((List.range 36).filter fun i=>H i).length
theorem LZ(H:Nat→Bool):Ai H≤36:=by
 unfold Ai
 have:=List.length_filter_le (fun i=>H i) (List.range 36)
 simpa using this
theorem filter_lt{α:Type}{p q:α→Bool}:∀(l:List α),(∀x,p x=true→q x=true)→(∃x,x∈l∧q x=true∧p x=false)→(l.filter p).length<(l.filter q).length
 | [],_,h=>by obtain⟨x,hx,_⟩:=h;cases hx
 | y::l,hpq,h=>by
  have hle:∀m:List α,(m.filter p).length≤(m.filter q).length:=by
   intro m
   induction m with
   | nil=>simp
   | cons z m ih=>
    rw[List.filter_cons,List.filter_cons]
    by_cases hp:p z=true
    · rw[if_pos hp,if_pos (hpq z hp)];simp;exact ih
    · rw[if_neg hp]
      split
      · simp;omega
      · exact ih
  rw[List.filter_cons,List.filter_cons]
  obtain⟨x,hx,h1,h2⟩:=h
  rcases List.mem_cons.1 hx with rfl | hx
  · rw[if_neg (by rw[h2];decide),if_pos h1]
    have:=hle l
    simp
    omega
  · have ih:=filter_lt l hpq ⟨x,hx,h1,h2⟩
    by_cases hp:p y=true
    · rw[if_pos hp,if_pos (hpq y hp)];simp;exact ih
    · rw[if_neg hp]
      split
      · simp;omega
      · exact ih
theorem uz{R:List bO}(hR:∀H i,36≤i→H i=false→di R H i=false):∀(n:Nat) (H:Nat→Bool),(∀i,36≤i→H i=false)→36<n+Ai H→di R (rounds R n H)=rounds R n H
 | 0,H,hH,h=>by have:=LZ H;omega
 | n+1,H,hH,h=>by
  by_cases hs:di R H=H
  · have:∀m,rounds R m H=H:=by
     intro m
     induction m with
     | zero=>rfl
     | succ m ih=>show rounds R m (di R H)=H;rw[hs,ih]
    rw[this,hs]
  · show di R (rounds R n (di R H))=rounds R n (di R H)
    refine uz hR n _ (fun i hi=>hR H i hi (hH i hi)) ?_
    have:Ai H<Ai (di R H):=by
     unfold Ai
     apply filter_lt _ (fun i hi=>jg R H i hi)
     apply Classical.byContradiction
     intro hc
     apply hs
     funext i
     by_cases hi:i<36
     · cases h1:H i with
       | true=>exact jg R H i h1
       | false=>
        cases h2:di R H i with
        | false=>rfl
        | true=>exact absurd ⟨i,by simpa using hi,h2,h1⟩ hc
     · rw[hH i (by omega),hR H i (by omega) (hH i (by omega))]
    omega
end En
/- axiomkeep: written. -/
section
open Go.RowKit
def DA(x:Nat):ByteArray:=(Ax.dG x).text
def fO(i:Nat)(p:ByteArray)(x:Nat):ByteArray:=(if 0<i then p++⟨#[44]⟩else p)++DA x
def lz:List Nat→Nat→ByteArray→ByteArray
 | [],_,p=>p
 | x::l,i,p=>lz l (i+1) (fO i p x)
theorem Q3{x:Nat}(h:x<3):(⟨#[88,89,90]⟩:ByteArray).extract x (x+1)=DA x:=by
 have:x=0∨x=1∨x=2:=by omega
 rcases this with rfl | rfl | rfl<;>rfl
theorem Nl{x:Nat}(h:¬x<3):DA x=Ax.cf (x-3):=by simp[DA,Ax.dG,h]
theorem CH(x:Nat):(DA x).size≤2:=by
 unfold DA Ax.dG
 split
 · unfold Ax.ij;simp only;split<;>decide
 · unfold Ax.cf;simp only;split<;>decide
theorem yl(x:Nat):(Ax.cr x).size≤3:=by unfold Ax.cr;split<;>decide
theorem jA{x n:Nat}(h:x<n):Ax.bk (x:Int) n=x:=by
 unfold Ax.bk
 rw[if_neg (by omega),Int.emod_eq_of_lt (by omega) (by omega)]
 omega
theorem O9(x:Nat)(h3:¬x<3)(h7:x<7)(N:Int)(hN:N=(x:Int)-3):∀w,Calls Tryz.prog 122 #[.int .i64 N] w fun e w'=>e=.returned (.string (DA x))∧Below w.heap.size w w':=by
 intro w
 have e:N=((x-3:Nat):Int):=by omega
 rw[e,Nl h3]
 have:=rS ((x-3:Nat):Int) w ⟨by omega,by omega⟩
 rw[jA (by omega)]at this
 exact this
theorem CF(w:World)(p:Int)(hp:cw p)(b:Nat)(ld:Option Addr)(lc:Nat)(ts:List Nat)(h:w.ownsRow b 3 1 (.slice ld ts.length lc) ts.length (aA ts))(hl:ts.length≤1000)(h7:Hid (∀x,x∈ts→x<7))(R:ByteArray)(HR:Hid (lz ts 0 (Ax.cr (Ax.bk p 3)++⟨#[40]⟩)=R)):
 Calls Tryz.prog 61 #[.int .i64 p,.slice ld ts.length lc] w fun e w'=>e=.returned (.string (R++⟨#[41]⟩))∧Below w.heap.size w w':=by
 have nO:=fun w=>Er p w hp
 have uH:=yl (Ax.bk p 3)
 generalize Ax.cr (Ax.bk p 3)=P at*
 have tq:Hid (∀w,Calls Tryz.prog 18 #[.int .i64 p] w fun e w'=>e=.returned (.string P)∧Below w.heap.size w w'):=nO
 clear nO
 have hP1:(P++⟨#[40]⟩:ByteArray).size≤10:=by rw[ByteArray.size_append];have:(⟨#[40]⟩:ByteArray).size=1:=rfl;omega
 go_enter Tryz.func61,Tryz.ntmps61
 go_wp2_with (go_at_call 18;refine(tq.out _).mono ?_;rintro e w1 ⟨rfl,a8⟩)
 go_loopw [5,6] (fun sv iv wr=>∃(i:Nat) (q:ByteArray),i≤ts.length∧sv=.string q∧iv=.int .i64 i∧Below w.heap.size w wr∧q.size≤10+10*i∧lz (ts.drop i) i q=R) (fun _ iv _=>ts.length-(intOf iv).toNat)
 case atStart=>exact⟨0,_,Nat.zero_le _,rfl,rfl,a8,by omega,HR.out⟩
 case round=>
  obtain⟨i,q,hi,rfl,rfl,aU,F1,hr⟩:=hrel
  have JG:Hid (lz (ts.drop i) i q=R):=hr
  clear hr HR
  have cE:=aU.size
  by_cases aE:i<ts.length
  · obtain⟨g,rfl,hg,hc,bH⟩:=aD (ae h aU) (by omega)
    have c0:=bH _ _ (re ts i aE)
    clear bH
    have hx7:=h7.out _ (List.getElem_mem aE)
    have fi:ts.drop i=ts[i]::ts.drop (i+1):=List.drop_eq_getElem_cons aE
    rw[fi]at JG
    clear fi
    generalize ts[i]=x at*
    have HN:Hid (lz (ts.drop (i+1)) (i+1) (fO i q x)=R):=JG
    clear JG
    have hxs:=CH x
    have Ce:(⟨#[44]⟩:ByteArray).size=1:=rfl
    have Rj:Hid ((fO i q x).size≤10+10*(i+1)):=by
     show(fO i q x).size≤_
     unfold fO
     split
     · rw[ByteArray.size_append,ByteArray.size_append];omega
     · rw[ByteArray.size_append];omega
    have Z4:(q++⟨#[44]⟩:ByteArray).size≤11+10*i:=by rw[ByteArray.size_append];omega
    by_cases hx:x<3
    · have hxb:decide ((x:Int)<3)=true:=by simp;omega
      have hex:=Q3 hx
      by_cases h0:0<i
      · have h0b:decide ((0:Int)<(i:Int))=true:=by simp;omega
        have HW:Hid (fO i q x=q++⟨#[44]⟩++DA x):=by simp[Hid,fO,h0]
        go_wp2_with fail
        go_region
        all_goals (go_wp2_with fail)
        all_goals (go_roundw;(case rel=>exact⟨i+1,fO i q x,by omega,by rw[HW.out,←hex],by go_num,aU.drew,Rj.out,HN.out⟩);(case measure=>simp[intOf];omega))
      · have h0b:decide ((0:Int)<(i:Int))=false:=by simp;omega
        have HW:Hid (fO i q x=q++DA x):=by simp[Hid,fO,h0]
        go_wp2_with fail
        go_region
        all_goals (go_wp2_with fail)
        all_goals (go_roundw;(case rel=>exact⟨i+1,fO i q x,by omega,by rw[HW.out,←hex],by go_num,aU.drew,Rj.out,HN.out⟩);(case measure=>simp[intOf];omega))
    · have hxb:decide ((x:Int)<3)=false:=by simp;omega
      have gh:=O9 x hx hx7 ((x:Int)-3) rfl
      have ze:Hid (∀w,Calls Tryz.prog 122 #[.int .i64 ((x:Int)-3)] w fun e w'=>e=.returned (.string (DA x))∧Below w.heap.size w w'):=gh
      clear gh
      by_cases h0:0<i
      · have h0b:decide ((0:Int)<(i:Int))=true:=by simp;omega
        have HW:Hid (fO i q x=q++⟨#[44]⟩++DA x):=by simp[Hid,fO,h0]
        go_wp2_with (go_at_call 122;refine(ze.out _).mono ?_;rintro e w2 ⟨rfl,cM⟩)
        go_roundw
        case rel=>exact⟨i+1,fO i q x,by omega,by rw[HW.out],by go_num,aU.trans (cM.mono cE),Rj.out,HN.out⟩
        case measure=>simp[intOf];omega
      · have h0b:decide ((0:Int)<(i:Int))=false:=by simp;omega
        have HW:Hid (fO i q x=q++DA x):=by simp[Hid,fO,h0]
        go_wp2_with (go_at_call 122;refine(ze.out _).mono ?_;rintro e w2 ⟨rfl,cM⟩)
        go_roundw
        case rel=>exact⟨i+1,fO i q x,by omega,by rw[HW.out],by go_num,aU.trans (cM.mono cE),Rj.out,HN.out⟩
        case measure=>simp[intOf];omega
  · have Y9:q=R:=by
     have:=JG.out
     rw[List.drop_eq_nil_of_le (by omega)]at this
     exact this
    subst Y9
    clear JG
    go_wp2_with fail
    go_ret
    exact⟨rfl,aU⟩
end
/- axiomkeep: what written writes, as tokens. No program here. -/
section
def dy(l:List Ax.EI):List UInt8:=l.flatMap fun x=>x.2.data.toList
theorem fW(l l':List Ax.EI):dy (l++l')=dy l++dy l':=by simp[dy]
theorem gB(x:Ax.EI)(l:List Ax.EI):dy (x::l)=x.2.data.toList++dy l:=by simp[dy]
theorem DT:∀(l:List Nat) (i:Nat) (p:ByteArray),0<i→(lz l i p).data.toList=p.data.toList++l.flatMap fun x=>44::(DA x).data.toList
 | [],i,p,_=>by simp[lz]
 | x::l,i,p,h=>by
  rw[lz,DT l (i+1) _ (by omega)]
  simp[fO,h,ByteArray.data_append]
theorem sE:∀(l:List Nat) (x:Nat),dy (Ax.db ((x::l).map Ax.dG))=(DA x).data.toList++l.flatMap fun x=>44::(DA x).data.toList
 | [],x=>by simp[Ax.db,dy,Ax.tI,DA]
 | y::l,x=>by
  have ih:=sE l y
  rw[List.map_cons]at ih
  rw[List.map_cons,List.map_cons,Ax.db,gB,gB,ih]
  simp[Ax.tI,Ax.lu,DA]
theorem p6(p:Nat)(ts:List Nat)(h:ts≠[]):(lz ts 0 (Ax.cr p++⟨#[40]⟩)++⟨#[41]⟩:ByteArray).data.toList=dy (Ax.dn (Ax.jL p ts)):=by
 cases ts with
 | nil=>exact absurd rfl h
 | cons x l=>
  rw[ByteArray.data_append,Array.toList_append,lz,DT l 1 _ (by omega)]
  unfold Ax.dn Ax.jL
  simp only
  rw[gB,gB,fW,sE]
  simp[fO,ByteArray.data_append,dy]
end
/- axiomkeep: body. -/
section
open Go.RowKit
theorem OR(w:World)(p a b:Int)(ad:Addr)(n c:Nat)(hn:n≤c)(hc:c≤maxLen):Calls Tryz.prog 63 #[.agg #[.int .i64 p,.int .i64 a,.int .i64 b,.slice (some ad) n c]] w fun e w'=>e=.returned (.slice (some ad) (min n 2) c)∧Below w.heap.size w w':=by
 have hm:maxLen=9223372036854775807:=rfl
 by_cases h2:2<n
 · have hb:decide ((2:Int)<(n:Int))=true:=by simp;omega
   rw[Nat.min_eq_right (by omega)]
   go_enter Tryz.func63,Tryz.ntmps63
   go_wp2_with fail
   go_ret
   exact⟨rfl,(Below.refl _ _).alloc (Nat.le_refl _) _⟩
 · have hb:decide ((2:Int)<(n:Int))=false:=by simp;omega
   rw[Nat.min_eq_left (by omega)]
   go_enter Tryz.func63,Tryz.ntmps63
   go_wp2_with fail
   go_ret
   exact⟨rfl,(Below.refl _ _).alloc (Nat.le_refl _) _⟩
theorem Jp(w:World)(p a b:Int)(c:Nat):Calls Tryz.prog 63 #[.agg #[.int .i64 p,.int .i64 a,.int .i64 b,.slice none 0 c]] w fun e w'=>e=.returned (.slice none 0 c)∧Below w.heap.size w w':=by
 go_enter Tryz.func63,Tryz.ntmps63
 go_wp2_with fail
 go_ret
 exact⟨rfl,(Below.refl _ _).alloc (Nat.le_refl _) _⟩
end
end Go.Proofs.YtdmicblafmhflaaGreatDoor
