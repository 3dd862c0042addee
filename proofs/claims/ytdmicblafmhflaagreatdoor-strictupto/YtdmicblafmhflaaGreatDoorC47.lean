/- What a search finds, in general; a made state as its calls answer. -/
import Derived.Test.YtdmicblafmhflaaGreatDoorC46
set_option linter.unusedSimpArgs false
set_option linter.unusedVariables false
namespace Go.Proofs.YtdmicblafmhflaaGreatDoor
section
open Go.RowKit Go.Maps
namespace En
theorem yq{F:Type}[DecidableEq F]{R:List (dP F)}:∀(fuel n:Nat) (s s':cU F),n≤200→search R 200 fuel n s=some s'→s'.found.length≤200
 | 0,n,s,s',_,h=>by simp[search]at h
 | fuel+1,n,s,s',hn,h=>by
  by_cases h1:n<s.found.length
  · by_cases h2:s.found.length≤200
    · rw[Ag h1 h2]at h
      exact yq fuel (n+1) _ s' (by omega) h
    · rw[uQ h1 (by omega)]at h
      cases h
  · rw[xU h1]at h
    simp at h
    subst h
    omega
theorem oE{rs:List Ax.aP}(h:Ax.dV rs){gl:List bE}{s:cU bE}(hs:cg rs gl=some s):Inv (rs.map cp) (· ∈gl) s s.found.length∧s.found.length≤200:=by
 have hR:∀r,r∈rs.map cp→r.k≤2:=by
  intro r hr
  obtain⟨q,hq,rfl⟩:=List.mem_map.1 hr
  exact h.two q hq
 have hi:=Bf (rs.map cp) hR gl
 rw[←pz]at hi
 unfold cg mstart at hs
 exact⟨qB hR 202 0 _ s hi (Nat.zero_le _) hs,yq 202 0 _ s (by omega) hs⟩
theorem MT{F:Type}(k:Nat)(L:List F)(hk:k≤2)(hL:L.length≤200):(fX k L).length≤40000:=by
 have hc:k=0∨k=1∨k=2:=by omega
 rcases hc with rfl | rfl | rfl
 · simp[fX]
 · simp[fX]
   omega
 · simp only[fX]
   have h1:∀(A:List F),(A.flatMap fun x=>L.map fun y=>[x,y]).length=A.length*L.length:=by
    intro A
    induction A with
    | nil=>simp
    | cons a A ih=>simp[ih,Nat.add_mul];omega
   rw[h1]
   exact Nat.mul_le_mul hL hL
theorem xX{F:Type}[DecidableEq F]{R:List (dP F)}(hR:∀r,r∈R→r.k≤2){L:List F}(hL:L.length≤200)(h:F):total R L h≤40000*R.length:=by
 unfold total
 induction R with
 | nil=>simp
 | cons r R ih=>
  rw[List.map_cons,List.sum_cons,List.length_cons]
  have h1:=ih (fun q hq=>hR q (by simp[hq]))
  have h2:jG r (fX r.k L) h≤40000:=by
   unfold jG
   refine Nat.le_trans List.count_le_length (Nat.le_trans (List.length_filterMap_le _ _) (MT _ _ (hR r (by simp)) hL))
  omega
theorem count_le{rs:List Ax.aP}(h:Ax.dV rs){gl:List bE}{s:cU bE}(hs:cg rs gl=some s)(f:bE):s.count f≤1000000:=by
 obtain⟨h1,h2⟩:=oE h hs
 have hR:∀r,r∈rs.map cp→r.k≤2:=by
  intro r hr
  obtain⟨q,hq,rfl⟩:=List.mem_map.1 hr
  exact h.two q hq
 rw[h1.counts,List.take_length]
 have h3:=xX (R:=rs.map cp) hR h2 f
 rw[List.length_map]at h3
 have:=h.oo
 omega
def yn(rs:List Ax.aP)(f:bE):Prop:=∃names:List ByteArray,(f.1,names.length)∈aS rs∧f.2=Tb.dh names∧∀x,x∈names→x.size≤600
theorem Kg{l:List ByteArray}(h:∀x,x∈l→x.size≤600)(k:Nat):(Tb.eh l k).size≤600:=by
 unfold Tb.eh
 rw[List.getD_eq_getElem?_getD]
 cases e:l[k]? with
 | none=>exact Nat.zero_le _
 | some y=>exact h y (List.mem_of_getElem? e)
theorem yn.small{rs:List Ax.aP}{f:bE}(h:yn rs f):∀x,x∈f.2→x.size≤600:=by
 obtain⟨names,_,e,h2⟩:=h
 intro x hx
 rw[e]at hx
 simp only[Tb.dh,List.mem_cons,List.not_mem_nil,or_false]at hx
 rcases hx with rfl | rfl | rfl<;>exact Kg h2 _
theorem Jx{b:Bind}(h:∀p,p∈b→p.2.size≤600)(x:ByteArray):(val b x).size≤600:=by
 induction b with
 | nil=>exact Nat.zero_le _
 | cons p b ih=>
  unfold val
  split
  · exact h p (by simp)
  · exact ih (fun q hq=>h q (by simp[hq]))
theorem nQ:∀(ts:List Ax.Term) (ns:List ByteArray) (b b':Bind),(∀n,n∈ns→n.size≤600)→(∀p,p∈b→p.2.size≤600)→eC ts ns b=some b'→∀p,p∈b'→p.2.size≤600
 | [],_,b,b',_,hb,h=>by
  simp[eC]at h
  subst h
  exact hb
 | _::_,[],_,_,_,_,h=>by simp[eC]at h
 | t::ts,n::ns,b,b',hn,hb,h=>by
  unfold eC at h
  split at h
  · exact nQ ts ns b b' (fun x hx=>hn x (by simp[hx])) hb h
  · split at h
    · refine nQ ts ns _ b' (fun x hx=>hn x (by simp[hx])) ?_ h
      intro p hp
      rcases List.mem_append.1 hp with hp | hp
      · exact hb p hp
      · simp at hp
        subst hp
        exact hn n (by simp)
    · cases h
theorem uB:∀(az:List Ax.Atom) (fs:List bE) (b b':Bind),(∀f,f∈fs→∀n,n∈f.2→n.size≤600)→(∀p,p∈b→p.2.size≤600)→ff az fs b=some b'→∀p,p∈b'→p.2.size≤600
 | [],[],b,b',_,hb,h=>by
  simp[ff]at h
  subst h
  exact hb
 | [],_::_,_,_,_,_,h=>by simp[ff]at h
 | _::_,[],_,_,_,_,h=>by simp[ff]at h
 | a::az,f::fs,b,b',hf,hb,h=>by
  unfold ff at h
  split at h
  · rename_i b2 e
    refine uB az fs b2 b' (fun x hx=>hf x (by simp[hx])) ?_ h
    unfold dd at e
    split at e
    · exact nQ _ _ _ _ (hf f (by simp)) hb e
    · cases e
  · cases h
theorem Pf{l:List ByteArray}(h:l.length≤3):pad l=Tb.dh l:=by
 match l,h with
 | [],_=>rfl
 | [_],_=>rfl
 | [_,_],_=>rfl
 | [_,_,_],_=>rfl
theorem zF{rs:List Ax.aP}(h:Ax.dV rs):yi (rs.map cp) (yn rs):=by
 intro r hr fs _ F5 f hi
 obtain⟨q,hq,rfl⟩:=List.mem_map.1 hr
 have hi:(ff q.body fs []).map (fun b=>dj (val b) q.head)=some f:=hi
 obtain⟨b,hb,rfl⟩:=Option.map_eq_some_iff.1 hi
 have Ry:=uB q.body fs [] b (fun g hg=>(F5 g hg).small) (fun p hp=>by cases hp) hb
 have ha:=h.atoms q hq q.head (by simp[Ax.aP.atoms])
 refine⟨q.head.ag.map (dD (val b)), ?_, ?_, ?_⟩
 · rw[List.length_map]
   exact List.mem_map.2 ⟨q.head,List.mem_flatMap.2 ⟨q,hq,by simp[Ax.aP.atoms]⟩,rfl⟩
 · exact Pf (by rw[List.length_map];exact ha.2)
 · intro x hx
   obtain⟨t,ht,rfl⟩:=List.mem_map.1 hx
   unfold dD
   split
   · exact(ha.1.2.2 t ht).2
   · exact Jx Ry _
theorem O4{rs:List Ax.aP}(h:Ax.dV rs){gl:List bE}(hg:∀f,f∈gl→yn rs f){s:cU bE}(hs:cg rs gl=some s):∀f,f∈s.found→yn rs f:=(oE h hs).1.least _ (zF h) hg
end En
end
/- A made state, as its calls answer. -/
section
open Go.RowKit Go.Maps
namespace Gs
def o5(L:List (List ByteArray))(l:List (List ByteArray)):List (List ByteArray):=l.foldl Tb.put L
theorem tu:∀(l L:List (List ByteArray)),Tb.Ord L→Tb.Ord (o5 L l)∧∀r,r∈o5 L l↔r∈L∨r∈l
 | [],L,h=>⟨h,fun r=>by simp[o5]⟩
 | a::l,L,h=>by
  have e:o5 L (a::l)=o5 (Tb.put L a) l:=rfl
  obtain⟨h1,h2⟩:=tu l (Tb.put L a) (Tb.Iq h a)
  refine⟨by rw[e];exact h1,fun r=> ?_⟩
  rw[e,h2,Tb.sA,List.mem_cons]
  constructor
  · rintro((h | h) | h)
    · exact .inr (.inl h)
    · exact .inl h
    · exact .inr (.inr h)
  · rintro(h | h | h)
    · exact .inl (.inr h)
    · exact .inl (.inl h)
    · exact .inr h
def fV(s:En.cU En.bE)(p:ByteArray):List (List ByteArray):=o5 [] ((s.found.filter fun f=>decide (f.1=p)).map Prod.snd)
theorem fe(s:En.cU En.bE)(p:ByteArray):Tb.Ord (fV s p)∧∀r,r∈fV s p↔(p,r)∈s.found:=by
 obtain⟨h1,h2⟩:=tu ((s.found.filter fun f=>decide (f.1=p)).map Prod.snd) [] List.Pairwise.nil
 refine⟨h1,fun r=> ?_⟩
 unfold fV
 rw[h2]
 constructor
 · rintro(h | h)
   · cases h
   · obtain⟨f,hf,rfl⟩:=List.mem_map.1 h
     rw[List.mem_filter]at hf
     have:=of_decide_eq_true hf.2
     rw[←this]
     exact hf.1
 · intro h
   exact .inr (List.mem_map.2 ⟨(p,r),List.mem_filter.2 ⟨h,by simp⟩,rfl⟩)
theorem Ce{L1 L2:List (List ByteArray)}(h1:Tb.Ord L1)(h2:Tb.Ord L2)(h:∀r,r∈L1↔r∈L2):L1=L2:=by
 refine Mx (R:=fun a b=>Tb.db a b<0) ?_ L1 L2 h1 h2 h
 intro a b pS hba
 have h3:=Tb.kB pS hba
 rw[Tb.ky]at h3
 omega
def ar(Q:List Pd.Pr)(p:ByteArray):Nat:=match Q.find? fun x=>decide (x.1=p)with
 | some x=>x.2
 | none=>0
theorem Ow{Q:List Pd.Pr}(hn:(Q.map Prod.fst).Nodup){p:Pd.Pr}(hp:p∈Q):ar Q p.1=p.2:=by
 have h1:Q.find? (fun x=>decide (x.1=p.1))=some p:=by
  induction Q with
  | nil=>cases hp
  | cons q Q ih=>
   rw[List.map_cons,List.nodup_cons]at hn
   rw[List.find?_cons]
   by_cases e:q.1=p.1
   · rw[decide_eq_true e]
     rcases List.mem_cons.1 hp with rfl | hp
     · rfl
     · exact absurd (List.mem_map_of_mem (f:=Prod.fst) hp) (by rw[←e];exact hn.1)
   · rw[decide_eq_false e]
     rcases List.mem_cons.1 hp with rfl | hp
     · exact absurd rfl e
     · exact ih hn.2 hp
 unfold ar
 rw[h1]
def cP(pl:ByteArray)(Q:List Pd.Pr)(R:Rd.dz)(s:En.cU En.bE):St:=⟨pl,Q,fun p=>(fV s p).map fun r=>(r.take (ar Q p),s.count (p,r)),fun p names=>Tb.lO (R p) (Tb.dh names)⟩
theorem tW{l:List ByteArray}(h:l.length≤3):(Tb.dh l).take l.length=l:=by
 match l,h with
 | [],_=>rfl
 | [_],_=>rfl
 | [_,_],_=>rfl
 | [_,_,_],_=>rfl
structure FQ(Q:List Pd.Pr)(s:En.cU En.bE):Prop where
 nodup:(Q.map Prod.fst).Nodup
 TB:∀p,p∈Q→1≤p.2∧p.2≤3
 oo:s.found.length≤200
 nod:s.found.Nodup
 jG:∀f,s.count f≤1000000
 ok:∀f,f∈s.found→∃names:List ByteArray,(f.1,names.length)∈Q∧f.2=Tb.dh names∧∀x,x∈names→x.size≤600
theorem FQ.row{Q:List Pd.Pr}{s:En.cU En.bE}(h:FQ Q s){p:Pd.Pr}(hp:p∈Q){r:List ByteArray}(hr:r∈fV s p.1):(r.take (ar Q p.1)).length=p.2∧r=Tb.dh (r.take (ar Q p.1))∧∀x,x∈r.take (ar Q p.1)→x.size≤600:=by
 obtain⟨names,h1,h2,h3⟩:=h.ok _ (((fe s p.1).2 r).1 hr)
 simp only at h1 h2
 have e1:=Ow h.nodup hp
 have e2:ar Q p.1=names.length:=Ow h.nodup (p:=(p.1,names.length)) h1
 have e3:=(h.TB p hp).2
 rw[h2,e2,tW (by omega)]
 exact⟨by omega,rfl,h3⟩
theorem La{Q:List Pd.Pr}{s:En.cU En.bE}(h:FQ Q s)(p:ByteArray):(fV s p).length≤200:=by
 obtain⟨h1,h2⟩:=fe s p
 have vz:((fV s p).map fun r=>(p,r)).Nodup:=by
  refine List.Pairwise.map _ ?_ h1
  intro a b pS e
  simp only[Prod.mk.injEq,true_and]at e
  subst e
  rw[Tb.ky]at pS
  omega
 have h3:=List.Nodup.length_le_of_subset vz (l₂:=s.found) (fun f hf=>by
  obtain⟨r,hr,rfl⟩:=List.mem_map.1 hf
  exact(h2 r).1 hr)
 rw[List.length_map]at h3
 have:=h.oo
 omega
theorem MO{pl:ByteArray}(lu:pl.size≤600){Q:List Pd.Pr}(hq:Q.length≤6)(R:Rd.dz){s:En.cU En.bE}(h:FQ Q s):Ok (cP pl Q R s):=by
 refine⟨lu,hq,h.TB, ?_, ?_, ?_, ?_⟩
 · intro p hp j hj
   obtain⟨r,hr,rfl⟩:=List.mem_map.1 hj
   exact(h.row hp hr).1
 · intro p _
   show((fV s p.1).map _).length≤200
   rw[List.length_map]
   exact La h p.1
 · intro p _ j hj
   obtain⟨r,_,rfl⟩:=List.mem_map.1 hj
   exact h.jG _
 · intro p hp j hj x hx
   obtain⟨r,hr,rfl⟩:=List.mem_map.1 hj
   exact Nat.le_trans ((h.row hp hr).2.2 x hx) (by decide)
theorem B0{w:World}{pl:ByteArray}{rd:Option Addr}{rc:Nat}{l:List MR}{gm hm:Nat}{G:List GT}{T:List HT}{s:En.cU En.bE}{Q:List Pd.Pr}{R:Rd.dz}(dQ:aB w rd rc l)(cB:Ax.dV (l.map MR.ak))(hs:Pd.lX Q)(hQ:∀p,p∈Q↔p∈aS (l.map MR.ak))(hG:jY w gm G)(hR:GQ G Q R)(hRl:∀t,t∈G→t.L.length≤100000)(hH:p5 w hm T s)(hT:∀p,p∈Q→p∈T.map iR)(hF:FQ Q s):zW w (cP pl Q R s) (.slice rd l.length rc) gm hm:=by
 refine⟨?_, ?_, ?_⟩
 · intro W hW
   refine(pD W pl rd rc l (dQ.below hW) (by have:=cB.oo;rw[List.length_map]at this;omega) cB.one).mono ?_
   rintro e w' ⟨qd,qc,Q',rfl,h1,h2,h3⟩
   have U6:Q'=Q:=Pd.mV h3.out.1 hs (fun x=>(h3.out.2 x).trans (hQ x).symm)
   subst U6
   exact⟨qd,qc,rfl,h1,h2⟩
 · intro p hp
   have hp9:=hT p hp
   obtain⟨u,hu,vv⟩:=List.mem_map.1 hp9
   have QI:u.nm=p.1:=congrArg Prod.fst vv
   have uK:p.1.size≤1000000:=by rw[←QI];exact hH.short u hu
   have hlU:=hH.oo u hu
   have hfw:=hF.oo
   have Mc:=(hH.bX u hu).ot
   have Ai:u.L=fV s p.1:=Ce Mc.ord (fe s p.1).1 (fun r=>by rw[hH.rows u hu,QI,(fe s p.1).2])
   have hlen:((cP pl Q R s).hold p.1).length=u.L.length:=by
    show((fV s p.1).map _).length=_
    rw[List.length_map,Ai]
   refine⟨u.g,lt_of_heap Mc.da, ?_, ?_, ?_, ?_⟩
   · intro W hW
     exact(hH.below hW).map.look (by rw[←QI];exact rQ hH.names hu) uK Tryz.underlying103 (Tryz.zeroValue97 W)
   · intro W hW
     rw[hlen]
     exact I1 W u.g _ _ _ _ _ _ _ (Mc.below hW)
   · intro W hW
     have e1:((cP pl Q R s).hold p.1).map (fun j=>Tb.dh j.1)=u.L:=by
      show((fV s p.1).map fun r=>(r.take (ar Q p.1),s.count (p.1,r))).map (fun j=>Tb.dh j.1)=u.L
      rw[List.map_map,Ai]
      have:∀r,r∈fV s p.1→((fun j:List ByteArray×Nat=>Tb.dh j.1)∘fun r=>(r.take (ar Q p.1),s.count (p.1,r))) r=r:=fun r hr=>(hF.row hp hr).2.1.symm
      rw[List.map_congr_left this]
      simp
     rw[hlen,e1]
     exact wM W u.g _ _ _ _ _ _ _ (Mc.below hW) (by omega)
   · intro W hW j hj
     obtain⟨r,hr,rfl⟩:=List.mem_map.1 hj
     have hre:=(hF.row hp hr).2.1
     simp only
     rw[qL]
     refine(Jv W u.g _ _ _ _ _ _ _ _ _ _ _ ((hH.bX u hu).below hW) (by omega)).mono ?_
     rintro e w' ⟨rfl,hb⟩
     refine⟨?_,hb⟩
     have Oj:Tb.Ord u.L:=Mc.ord
     have fk:r∈u.L:=by rw[Ai];exact hr
     have e3:Tb.Ap u.L u.C (Tb.dh (r.take (ar Q p.1)))=s.count (p.1,r):=by
      rw[←hre,hH.vq u hu,Km Oj,if_pos (Tb.dM.2 fk),QI]
     rw[←e3]
     rfl
 · intro p hp
   obtain⟨t,ht,iG,lu⟩:=hR.has p hp
   have uK:p.1.size≤1000000:=by rw[←iG];exact hG.short t ht
   have hlL:=hRl t ht
   refine⟨t.g,lt_of_heap (cl.da (hG.bX t ht)), ?_, ?_⟩
   · intro W hW
     exact(hG.below hW).map.look (by rw[←iG];exact iT hG.names ht) uK Tryz.underlying102 (Tryz.zeroValue122 W)
   · intro W hW j hj
     rw[qL]
     refine(Sc W t.g _ _ _ _ _ _ _ _ _ _ ((hG.bX t ht).below hW) (by omega)).mono ?_
     rintro e w' ⟨rfl,hb⟩
     refine⟨?_,hb⟩
     have e1:Tb.lO t.L (Tb.dh j.1)=(cP pl Q R s).rA p.1 j.1:=by
      show _=Tb.lO (R p.1) (Tb.dh j.1)
      rw[(hR.sub t ht).2,iG]
     rw[←e1]
     rfl
end Gs
end
/- state.Read of any bytes. -/
section
open Go.RowKit Go.Maps
namespace Rd
def cD(rs:List Ax.aP):List Pd.Pr:=Pd.mw ((aS rs).mergeSort fun a b=>!Tb.slt b.1 a.1)
theorem xw{rs:List Ax.aP}{Q:List Pd.Pr}(h1:Pd.lX Q)(h2:∀p,p∈Q↔p∈aS rs):cD rs=Q:=by
 have m:∀p,p∈(aS rs).mergeSort (fun a b=>!Tb.slt b.1 a.1)↔p∈aS rs:=fun p=>List.mem_mergeSort
 refine Pd.mV (Pd.QB _ ?_ ?_) h1 fun p=>((Pd.BK _).trans (m p)).trans (h2 p).symm
 · refine (List.pairwise_mergeSort (fun a b c h k=> ?_) (fun a b=> ?_) (aS rs)).imp (fun h=>by simpa using h)
   · simp only[Bool.not_eq_true']at *
     cases e:Tb.slt c.1 a.1 with
     | false=>rfl
     | true=>
       cases f:Tb.slt a.1 b.1 with
       | true=>rw[Tb.pH e f]at k;cases k
       | false=>rw[Tb.vP f h,k]at e;cases e
   · cases e:Tb.slt b.1 a.1 with
     | false=>rfl
     | true=>rw[Tb.wV e];rfl
 · intro a ha b hb e
   have q:Q.Pairwise fun a b=>Tb.slt a.1 b.1=true:=h1
   have d:∀{x y:Pd.Pr},Tb.slt x.1 y.1=true→x.1≠y.1:=fun h k=>by rw[k,Tb.nP]at h;cases h
   exact List.Pairwise.forall_of_forall_of_flip (R:=fun a b=>a.1=b.1→a=b) (fun _ _ _=>rfl) (q.imp fun h k=>absurd k (d h)) (q.imp fun h k=>absurd k.symm (d h)) ((h2 a).2 ((m a).1 ha)) ((h2 b).2 ((m b).1 hb)) e
def Ct(Q:List Pd.Pr)(R:dz):List En.bE:=Q.flatMap fun p=>(R p.1).map fun r=>(p.1,r)
def xj(Q:List Pd.Pr)(R:dz):Nat:=(Q.map fun p=>(R p.1).length).sum
def state(s:List UInt8):Option (Gs.St×List UInt8):=
 if s.length<32 then none else
 if (Ax.read ⟨(text (s.take (s.length-32)) false).1.toArray⟩).2.1≠0 then none else
 match dJ (cD (Ax.bw ⟨(text (s.take (s.length-32)) false).1.toArray⟩)) (text (s.take (s.length-32)) false).2.1 (text (s.take (s.length-32)) false).2.2 with
 | some (R,_,false)=>if xj (cD (Ax.bw ⟨(text (s.take (s.length-32)) false).1.toArray⟩)) R≤40 then
  match cg (Ax.bw ⟨(text (s.take (s.length-32)) false).1.toArray⟩) (Ct (cD (Ax.bw ⟨(text (s.take (s.length-32)) false).1.toArray⟩)) R)with
  | some sea=>if Gs.body (Gs.cP (Ax.read ⟨(text (s.take (s.length-32)) false).1.toArray⟩).1 (cD (Ax.bw ⟨(text (s.take (s.length-32)) false).1.toArray⟩)) R sea)++s.drop (s.length-32)=s then some (Gs.cP (Ax.read ⟨(text (s.take (s.length-32)) false).1.toArray⟩).1 (cD (Ax.bw ⟨(text (s.take (s.length-32)) false).1.toArray⟩)) R sea,s.drop (s.length-32))else none
  | none=>none
  else none
 | _=>none
theorem Dk{s:List UInt8}(h:s.length<32):state s=none:=by unfold state;rw[if_pos h]
section
variable {s A hd : List UInt8} {jU : ByteArray} {l : List UInt8} {f : Bool}
theorem IJ(hs:s=A++hd)(hh:hd.length=32):¬s.length<32∧s.take (s.length-32)=A∧s.drop (s.length-32)=hd:=by
 subst hs
 have e:(A++hd).length-32=A.length:=by rw[List.length_append];omega
 exact⟨by rw[List.length_append];omega,by rw[e,List.take_left],by rw[e,List.drop_left]⟩
theorem Hm(hs:s=A++hd)(hh:hd.length=32)(ht:jU=⟨(text A false).1.toArray⟩)(h:(Ax.read jU).2.1≠0):state s=none:=by
 obtain⟨h1,h2,h3⟩:=IJ hs hh
 unfold state
 rw[if_neg h1,h2,←ht,if_pos h]
theorem uW(hs:s=A++hd)(hh:hd.length=32)(ht:jU=⟨(text A false).1.toArray⟩)(h:(Ax.read jU).2.1=0)(hg:dJ (cD (Ax.bw jU)) (text A false).2.1 (text A false).2.2=none∨∃R l,dJ (cD (Ax.bw jU)) (text A false).2.1 (text A false).2.2=some (R,l,true)):state s=none:=by
 obtain⟨h1,h2,h3⟩:=IJ hs hh
 unfold state
 rw[if_neg h1,h2,←ht,if_neg (fun e=>e h)]
 rcases hg with hg | ⟨R,l,hg⟩
 · rw[hg]
 · rw[hg]
theorem G3(hs:s=A++hd)(hh:hd.length=32)(ht:jU=⟨(text A false).1.toArray⟩)(h:(Ax.read jU).2.1=0){R:dz}{l:List UInt8}(hg:dJ (cD (Ax.bw jU)) (text A false).2.1 (text A false).2.2=some (R,l,false))(hm:xj (cD (Ax.bw jU)) R≤40→cg (Ax.bw jU) (Ct (cD (Ax.bw jU)) R)=none):state s=none:=by
 obtain⟨h1,h2,h3⟩:=IJ hs hh
 unfold state
 rw[if_neg h1,h2,←ht,if_neg (fun e=>e h),hg]
 simp only
 split
 · rename_i h9
   rw[hm h9]
 · rfl
theorem wL(hs:s=A++hd)(hh:hd.length=32)(ht:jU=⟨(text A false).1.toArray⟩)(h:(Ax.read jU).2.1=0){R:dz}{l:List UInt8}(hg:dJ (cD (Ax.bw jU)) (text A false).2.1 (text A false).2.2=some (R,l,false))(C0:xj (cD (Ax.bw jU)) R≤40){sea:En.cU En.bE}(hm:cg (Ax.bw jU) (Ct (cD (Ax.bw jU)) R)=some sea):(Gs.body (Gs.cP (Ax.read jU).1 (cD (Ax.bw jU)) R sea)++hd=s→state s=some (Gs.cP (Ax.read jU).1 (cD (Ax.bw jU)) R sea,hd))∧(¬Gs.body (Gs.cP (Ax.read jU).1 (cD (Ax.bw jU)) R sea)++hd=s→state s=none):=by
 obtain⟨h1,h2,h3⟩:=IJ hs hh
 unfold state
 rw[if_neg h1,h2,←ht,if_neg (fun e=>e h),hg,h3]
 simp only
 rw[if_pos C0,hm]
 simp only
 exact⟨fun e=>by rw[if_pos e],fun e=>by rw[if_neg e]⟩
end
theorem u5{α β:Type}{f g:α→List β}:∀l:List α,(∀x,x∈l→f x=g x)→l.flatMap f=l.flatMap g
 | [],_=>rfl
 | a::l,h=>by rw[List.flatMap_cons,List.flatMap_cons,h a (by simp),u5 l (fun x hx=>h x (by simp[hx]))]
theorem M4{a b:List Nat}(h:a.Perm b):a.sum=b.sum:=by
 induction h with
 | nil=>rfl
 | cons x _ ih=>simp[ih]
 | swap x y l=>simp;omega
 | trans _ _ h1 h2=>omega
theorem AD{G:List GT}{Q:List Pd.Pr}{R:dz}(h:GQ G Q R)(hn:(G.map GT.nm).Nodup):cQ Q G=Ct Q R:=by
 unfold cQ Ct
 refine u5 _ fun p hp=> ?_
 obtain⟨t,ht,e,_⟩:=h.has p hp
 have h1:=gB hn ht
 rw[e]at h1
 have h2:=(h.sub t ht).2
 rw[e]at h2
 rw[h1,h2]
theorem Af{G:List GT}{Q:List Pd.Pr}{R:dz}(h:GQ G Q R)(hn:(G.map GT.nm).Nodup)(hq:(Q.map Prod.fst).Nodup):fh G=xj Q R:=by
 have h1:(G.map fun t=>(t.nm,t.pl)).Perm Q:=by
  rw[List.perm_ext_iff_of_nodup]
  · intro p
    constructor
    · intro hp
      obtain⟨t,ht,rfl⟩:=List.mem_map.1 hp
      exact(h.sub t ht).1
    · intro hp
      obtain⟨t,ht,e1,e2⟩:=h.has p hp
      exact List.mem_map.2 ⟨t,ht,by rw[e1,e2]⟩
  · have:(G.map GT.nm)=(G.map fun t=>(t.nm,t.pl)).map Prod.fst:=by simp[Function.comp_def]
    rw[this]at hn
    exact List.Pairwise.of_map _ (fun a b h9 e=>h9 (congrArg _ e)) hn
  · exact List.Pairwise.of_map _ (fun a b h9 e=>h9 (congrArg _ e)) hq
 have h2:fh G=((G.map fun t=>(t.nm,t.pl)).map fun p=>(R p.1).length).sum:=by
  unfold fh
  rw[List.map_map]
  congr 1
  exact List.map_congr_left (fun t ht=>by simp[(h.sub t ht).2])
 rw[h2]
 unfold xj
 exact M4 (h1.map _)
end Rd
def Yl(pl:ByteArray)(rv:Value)(gm:Nat)(hd:List UInt8)(Y:Prop)(Z:Nat→List HT→En.cU En.bE→Prop)(cs:Array Value)(ok:Bool)(b:Option Nat)(W:World):Prop:=
 (ok=false∧cs=fB∧Y)∨(ok=true∧∃hm T s,cs=aI pl rv gm hm hd∧p5 W hm T s∧Z hm T s∧∀x,b=some x→∀y,y∈cA hm T→y≠x)
structure DW(w1:World)(pb:Nat)(pl:ByteArray)(rv:Value)(gm:Nat)(hd:List UInt8)(Y:Prop)(Z:Nat→List HT→En.cU En.bE→Prop)(cs:Array Value)(ok:Bool)(b cb:Option Nat)(W:World):Prop where
 mx:MX w1 pb pl rv hd b cb W
 sz:cs.size=36
 res:Yl pl rv gm hd Y Z cs ok b W
theorem DW.alloc{w1 W:World}{pb:Nat}{pl:ByteArray}{rv:Value}{gm:Nat}{hd:List UInt8}{Y:Prop}{Z:Nat→List HT→En.cU En.bE→Prop}{cs:Array Value}{ok:Bool}{cb:Option Nat}{C:Array Value}(h:DW w1 pb pl rv gm hd Y Z cs ok none cb W)(hz:C.size=36):DW w1 pb pl rv gm hd Y Z cs ok (some W.heap.size) cb (W.alloc (.cells C 107)):=by
 refine⟨h.mx.alloc hz,h.sz, ?_⟩
 rcases h.res with h1 | ⟨h1,hm,T,s,e,h2,h3,_⟩
 · exact .inl h1
 · refine .inr ⟨h1,hm,T,s,e,h2.below ((Below.refl _ _).alloc (Nat.le_refl _) _),h3,fun x hx y hy e=> ?_⟩
   simp only[Option.some.injEq]at hx
   have:=h2.lt hy
   omega
structure MRg(w1:World)(pl:ByteArray)(rv:Value)(gm:Nat)(hd:List UInt8)(Y:Prop)(Z:Nat→List HT→En.cU En.bE→Prop)(v11 v10:Value)(wx:World):Prop where
 out:∃x cs ok,v11=.pointer (some ⟨x,0,none⟩)∧v10=.bool ok∧cs.size=36∧wx.heap[x]?=some (.cells cs 107 (0,0))∧Yl pl rv gm hd Y Z cs ok none wx∧Below w1.heap.size w1 wx
theorem DW.cut{w1 W:World}{pb x:Nat}{pl:ByteArray}{rv:Value}{gm:Nat}{hd:List UInt8}{Y:Prop}{Z:Nat→List HT→En.cU En.bE→Prop}{cs:Array Value}{ok:Bool}{cb:Option Nat}(h:DW w1 pb pl rv gm hd Y Z cs ok (some x) cb W):MRg w1 pl rv gm hd Y Z (.pointer (some ⟨x,0,none⟩)) (.bool ok) (W.setCells x 0 cs.toList):=by
 obtain⟨h1,C,h2,h3⟩:=h.mx.da x rfl
 have hz:=h.sz
 obtain⟨_,hk⟩:=bO x cs.toList 0 C W h2 (by simp;omega)
 refine⟨x,cs,ok,rfl,rfl,h.sz,eO h2 h3 h.sz, ?_,hk.aK h.mx.be h.mx.be.size (by simpa using h1)⟩
 rcases h.res with k1 | ⟨k1,hm,T,s,e,k2,k3,k4⟩
 · exact .inl k1
 · exact .inr ⟨k1,hm,T,s,e,k2.kept hk (fun b hb=>by simpa using k4 x rfl b hb),k3,fun x hx=>by cases hx⟩
theorem DW.kg{w1 W:World}{pb x:Nat}{pl:ByteArray}{rv:Value}{gm:Nat}{hd:List UInt8}{Y:Prop}{Z:Nat→List HT→En.cU En.bE→Prop}{cs:Array Value}{ok:Bool}{cb:Option Nat}(h:DW w1 pb pl rv gm hd Y Z cs ok (some x) cb W):(W.setCells x 0 cs.toList).cell? ⟨pb,0,none⟩=some (.string pl)∧(W.setCells x 0 cs.toList).cell? ⟨pb,1,none⟩=some rv:=by
 obtain⟨h1,C,h2,h3⟩:=h.mx.da x rfl
 have hz:=h.sz
 obtain⟨_,hk⟩:=bO x cs.toList 0 C W h2 (by simp;omega)
 have cL:pb≠x:=by have:=h.mx.Wz;omega
 have hg:(W.setCells x 0 cs.toList).heap[pb]?=W.heap[pb]?:=hk.block pb (Nat.lt_of_lt_of_le h.mx.Wz h.mx.be.size) (by simpa using cL)
 exact⟨by rw[←h.mx.c0];simp only[World.cell?,hg],by rw[←h.mx.c1];simp only[World.cell?,hg]⟩
end
end Go.Proofs.YtdmicblafmhflaaGreatDoor
